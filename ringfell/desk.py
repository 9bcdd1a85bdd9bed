"""A desk that keeps a web and a one-way web, and answers rows of words."""

from ringfell.cases import least_cut
from ringfell.clears import clears_web
from ringfell.errors import NoBack, NoRow, NoText
from ringfell.leastsets import least_sets, place_kinds
from ringfell.onecases import one_least
from ringfell.oneways import cut_oneway, less_arrow, put_arrow
from ringfell.orders import least_order
from ringfell.ranks import knots_of, ranked_web
from ringfell.texts import (number_read, numbers_text, oneway_text, read_numbers, read_oneway, read_web, web_text,
                            words_text)
from ringfell.webs import cut_web, is_set_of, less_tie, put_tie
from ringfell.woods import peeled_web

READ_DEEDS = ("web", "ways")
PAIR_DEEDS = ("tie", "untie", "arrow", "drop")
SET_DEEDS = ("cut", "cutways")
SET_QUESTIONS = ("clears", "fewest", "fewestways")
QUESTIONS = ("tell", "tellways", "peel", "kinds", "sets", "ranks", "knots", "order")
# The words of rows that speak of the one-way web; all others speak of the web.
OF_WAYS = ("ways", "arrow", "drop", "cutways", "tellways", "ranks", "knots", "fewestways", "order")


def read_deed(word, row):
    if word == "web":
        return read_web(row)
    return read_oneway(row)


def pair_deed(word, web, one, other):
    if word == "tie":
        return put_tie(web, one, other)
    if word == "untie":
        return less_tie(web, one, other)
    if word == "arrow":
        return put_arrow(web, one, other)
    return less_arrow(web, one, other)


def set_deed(word, web, places):
    if word == "cut":
        return cut_web(web, places)
    return cut_oneway(web, places)


def shown_answer(shown):
    word = shown[0]
    numbers = numbers_text(shown[1])
    return f"{word} {numbers}"


def cut_answer(cut):
    if cut[0] == "never":
        return "never"
    return str(cut[1])


def set_answer(word, web, places):
    if word == "clears":
        return "yes" if clears_web(web, places) else "no"
    if word == "fewest":
        return cut_answer(least_cut(web, [1] * web[0], places))
    return cut_answer(one_least(web, [1] * web[0], places))


def answer_of(word, web):
    if word == "tell":
        return web_text(web)
    if word == "tellways":
        return oneway_text(web)
    if word == "peel":
        return shown_answer(peeled_web(web))
    if word == "kinds":
        return words_text([kind[0] for kind in place_kinds(web)[1]])
    if word == "sets":
        return str(len(least_sets(web)))
    if word == "ranks":
        return shown_answer(ranked_web(web))
    if word == "knots":
        return str(len(knots_of(web)))
    return str(least_order(web, [1] * len(web[1]))[0])


def said_pair(web, words):
    places = [number_read(word, web[0] - 1) for word in words]
    if len(places) != 2 or None in places:
        raise NoRow("two places should stand there")
    return places


def said_set(web, words):
    try:
        places = read_numbers(" ".join(words))
    except NoText:
        raise NoRow("a set of places should stand there") from None
    if not is_set_of(web, places):
        raise NoRow("a set of places should stand there")
    return places


class WebDesk:
    def __init__(self):
        # Both webs as they were ahead of each deed that stands, and last as they are now.
        self.states = [((0, ()), (0, ()))]

    def say(self, row):
        words = row.split(" ")
        if row == "back":
            return self.taken_back()
        if words[0] in READ_DEEDS:
            return self.done(words[0], read_deed(words[0], row))
        if row in QUESTIONS:
            return answer_of(row, self.web_of(row))
        return self.said_of_places(words[0], words[1:])

    def said_of_places(self, word, words):
        web = self.web_of(word)
        if word in PAIR_DEEDS:
            places = said_pair(web, words)
            return self.done(word, pair_deed(word, web, places[0], places[1]))
        if word in SET_DEEDS:
            return self.done(word, set_deed(word, web, said_set(web, words)))
        if word in SET_QUESTIONS:
            return set_answer(word, web, said_set(web, words))
        raise NoRow("this row is none that the desk knows")

    def web_of(self, word):
        state = self.states[-1]
        return state[1] if word in OF_WAYS else state[0]

    def done(self, word, web):
        state = self.states[-1]
        self.states.append((state[0], web) if word in OF_WAYS else (web, state[1]))
        return "ok"

    def taken_back(self):
        if len(self.states) == 1:
            raise NoBack("no deed stands")
        self.states.pop()
        return "ok"
