"""Webs, one-way webs, rows of numbers and logs, written in words and read back."""

from ringfell.errors import NoText
from ringfell.webs import MOST_PLACES, MOST_TIES, is_rising

FIGURES = "0123456789"
MOST_NUMBERS = 60
MOST_STEPS = 300
# How many numbers stand behind a step's word.
STEP_NUMBERS = {"lone": 1, "two": 1, "loop": 1, "many": 2}


def pairs_text(word, web, sign):
    many = web[0]
    words = [f"{word} {many}"]
    for pair in web[1]:
        one = pair[0]
        other = pair[1]
        words.append(f"{one}{sign}{other}")
    return " ".join(words)


def web_text(web):
    return pairs_text("web", web, "-")


def oneway_text(web):
    return pairs_text("ways", web, ">")


def words_text(words):
    if len(words) == 0:
        return "-"
    return " ".join(words)


def numbers_text(row):
    return words_text([str(number) for number in row])


def log_text(log):
    return words_text([" ".join([str(part) for part in step]) for step in log])


def number_read(word, most):
    # None where the word is no number, or one beyond the most.
    if word == "" or not all([sign in FIGURES for sign in word]):
        return None
    if word.startswith("0") and word != "0":
        return None
    # Python reads no number of very many figures, so this goes ahead of it.
    if len(word) > len(str(most)):
        return None
    number = int(word)
    if number > most:
        return None
    return number


def pair_read(word, many, sign):
    # None where the word is no pair of places.
    halves = word.partition(sign)
    one = number_read(halves[0], many - 1)
    other = number_read(halves[2], many - 1)
    if one is None or other is None:
        return None
    return (one, other)


def words_of(thing):
    if not isinstance(thing, str):
        raise NoText(0)
    return thing.split(" ")


def rows_words(thing):
    # The words of a row or a log, none where it is written as none.
    words = words_of(thing)
    if words[0] != "-":
        return words
    if len(words) > 1:
        raise NoText(1)
    return []


def is_tie_behind(pairs, pair):
    return pair[0] <= pair[1] and (len(pairs) == 0 or pairs[-1] <= pair)


def is_arrow_behind(pairs, pair):
    return len(pairs) == 0 or pairs[-1] < pair


def pairs_read(thing, word, sign, can_stand):
    # What can_stand lets by are pairs that can stand behind those ahead of them.
    words = words_of(thing)
    if words[0] != word:
        raise NoText(0)
    if len(words) == 1:
        raise NoText(1)
    many = number_read(words[1], MOST_PLACES)
    if many is None:
        raise NoText(1)
    pairs = []
    for text in words[2:]:
        pair = pair_read(text, many, sign)
        if pair is None or len(pairs) == MOST_TIES or not can_stand(pairs, pair):
            raise NoText(2 + len(pairs))
        pairs.append(pair)
    return (many, tuple(pairs))


def read_web(thing):
    return pairs_read(thing, "web", "-", is_tie_behind)


def read_oneway(thing):
    return pairs_read(thing, "ways", ">", is_arrow_behind)


def read_numbers(thing):
    numbers = []
    for at, word in enumerate(rows_words(thing)):
        number = number_read(word, 10 ** 60)
        if number is None or at == MOST_NUMBERS:
            raise NoText(at)
        numbers.append(number)
    return tuple(numbers)


def step_read(words, at):
    # The step whose word is number at.
    if words[at] not in STEP_NUMBERS:
        raise NoText(at)
    last = at + STEP_NUMBERS[words[at]]
    places = []
    for word in words[at + 1:last + 1]:
        place = number_read(word, MOST_PLACES - 1)
        places.append(place)
        if place is None or not is_rising(places):
            raise NoText(at + len(places))
    if last >= len(words):
        raise NoText(len(words))
    return (words[at],) + tuple(places)


def read_log(thing):
    words = rows_words(thing)
    log = []
    at = 0
    while at < len(words):
        if len(log) == MOST_STEPS:
            raise NoText(at)
        step = step_read(words, at)
        log.append(step)
        at += len(step)
    return log
