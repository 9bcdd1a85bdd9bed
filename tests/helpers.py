"""What the tests share: webs, drawn and named, and the document's words said plainly.

Nothing here calls the program: it is held against these functions.
"""

import random
import signal
from contextlib import contextmanager
from itertools import combinations, permutations

FAR = 10 ** 59 + 7


def nothing():
    yield (0, 1)


NO_NUMBERS = (None, True, False, "3", "", "a", -1, 41, 42, FAR, -FAR, [], [3], (), (3,), {}, {3: 3}, {3}, b"3",
              range(3), object(), int, nothing)
NO_ROWS = (None, True, False, 0, 3, FAR, "", "ab", "01", {}, {0: 1}, {(0, 1)}, b"", b"ab", range(0), range(3),
           object(), list, nothing, nothing())
NO_PAIRS = (None, True, False, 0, 1, FAR, "", "ab", "01", b"ab", {}, {0: 1, 1: 0}, {0, 1}, frozenset((0, 1)),
            range(2), object(), tuple, nothing, nothing(), (), [], (0,), [1], (0, 1, 2), [0, 1, 2], (True, 1),
            (1, True), (False, 0), [0, False], ("0", 1), (0, "1"), (None, 0), (0, None), (0, (1,)), ([0], 1),
            (3, 0), (0, 3), (-1, 0), (0, -1), [-1, -1], [3, 3], (FAR, 0), (0, FAR), (0, -FAR), ((0, 1), (0, 1)))


@contextmanager
def soon(seconds=60):
    """Fails what takes far longer than it may, so that it doesn't run on for ever."""
    def too_long(number, frame):
        raise AssertionError(f"not done within {seconds} seconds")
    before = signal.signal(signal.SIGALRM, too_long)
    signal.alarm(seconds)
    try:
        yield
    finally:
        signal.alarm(0)
        signal.signal(signal.SIGALRM, before)


def plain_web(many, pairs):
    return (many, tuple(sorted((min(pair), max(pair)) for pair in pairs)))


def joined(*webs):
    """Webs one behind the other, by hand."""
    many = 0
    pairs = []
    for web in webs:
        pairs += [(a + many, b + many) for a, b in web[1]]
        many += web[0]
    return plain_web(many, pairs)


def bare(many):
    return (many, ())


def looped():
    return (1, ((0, 0),))


def circle(many):
    return plain_web(many, [(place, (place + 1) % many) for place in range(many)])


def whole_web(many):
    return plain_web(many, combinations(range(many), 2))


def theta(ways):
    """Two places, 0 and 1, with so many ways of one place each between them."""
    pairs = []
    for place in range(2, 2 + ways):
        pairs += [(0, place), (1, place)]
    return plain_web(2 + ways, pairs)


def whole_chain(count, size):
    """Whole webs in a row, each two neighbours with one common place."""
    pairs = []
    for number in range(count):
        first = number * (size - 1)
        pairs += combinations(range(first, first + size), 2)
    return plain_web(count * (size - 1) + 1, pairs)


def leaps(many, row):
    """A circle with a further tie from each place, as far on as the row tells over and over."""
    pairs = list(circle(many)[1])
    for place in range(many):
        pairs.append(tuple(sorted((place, (place + row[place % len(row)]) % many))))
    further = set(pairs)
    return plain_web(many, further)


def three_tied():
    """Webs with three ties at each place and long least rings: (web, places of a least ring)."""
    petersen = [(k, (k + 1) % 5) for k in range(5)] + [(k, k + 5) for k in range(5)]
    petersen += [(5 + k, 5 + (k + 2) % 5) for k in range(5)]
    return [
        (whole_web(4), 3),
        (plain_web(6, [(a, b) for a in range(3) for b in range(3, 6)]), 4),
        (plain_web(10, petersen), 5),
        (leaps(14, (5, -5)), 6),
        (leaps(24, (12, 7, -7)), 7),
        (leaps(30, (-13, -9, 7, -7, 9, 13)), 8),
    ]


def drawn_web(rng, many, count):
    return plain_web(many, [(rng.randrange(many), rng.randrange(many)) for k in range(count)] if many else [])


def drawn_plain(rng, many, count):
    """Without loops, and with no pair twice."""
    return plain_web(many, rng.sample(list(combinations(range(many), 2)), count))


def drawn_wood(rng, many):
    return plain_web(many, [(place, rng.randrange(place)) for place in range(1, many) if rng.random() < 0.9])


def renamed(rng, web):
    order = list(range(web[0]))
    rng.shuffle(order)
    return plain_web(web[0], [(order[a], order[b]) for a, b in web[1]])


def small_webs(seed, count, most=6):
    """Few places, from no ties to many, with loops, several ties of a pair, and woods."""
    rng = random.Random(seed)
    webs = [bare(0), bare(1), looped(), bare(3), plain_web(2, [(0, 1)] * 2), plain_web(2, [(0, 1)] * 4)]
    while len(webs) < count:
        many = rng.randrange(1, most + 1)
        sort = rng.randrange(4)
        if sort == 0:
            webs.append(renamed(rng, drawn_wood(rng, many)))
        elif sort == 1:
            webs.append(drawn_plain(rng, many, rng.randrange(many * (many - 1) // 2 + 1)))
        else:
            webs.append(drawn_web(rng, many, rng.randrange(2 * many + 1)))
    return webs[:count]


def large_webs(seed):
    """Forty places, from woods to two hundred ties."""
    rng = random.Random(seed)
    webs = [bare(40), circle(40), theta(38), joined(*[looped()] * 40), plain_web(40, [(39, 39)] * 200)]
    webs += [plain_web(40, [(3, 30)] * 200), whole_chain(13, 4), renamed(rng, whole_chain(13, 4))]
    webs += [renamed(rng, drawn_wood(rng, 40)) for k in range(3)]
    webs += [drawn_web(rng, 40, count) for count in (30, 39, 45, 60, 100, 199, 200)]
    webs += [drawn_plain(rng, 40, count) for count in (40, 44, 50, 60, 120, 200)]
    webs += [joined(drawn_plain(rng, 21, 200), bare(19)), joined(drawn_web(rng, 5, 200), bare(35))]
    return webs


def all_sets(many):
    for size in range(many + 1):
        yield from combinations(range(many), size)


def drawn_set(rng, many, size):
    return tuple(sorted(rng.sample(range(many), size)))


def times(web, one, other):
    return sum(1 for tie in web[1] if tie in ((one, other), (other, one)))


def plain_cut(web, places):
    return (web[0], tuple(tie for tie in web[1] if not set(tie) & set(places)))


def plain_ring(web, ring):
    """2.1, word by word."""
    if not ring or len(set(ring)) < len(ring) or not set(ring) <= set(range(web[0])):
        return False
    if len(ring) == 1:
        return times(web, ring[0], ring[0]) > 0
    if len(ring) == 2:
        return times(web, ring[0], ring[1]) > 1
    return all(times(web, place, ring[at - 1]) > 0 for at, place in enumerate(ring))


def turned(ring):
    """Each tuple that begins at any of its places and goes round either way."""
    rows = []
    for way in (tuple(ring), tuple(ring)[::-1]):
        rows += [way[at:] + way[:at] for at in range(len(way))]
    return rows


def plain_form(ring):
    return min(turned(ring))


def plain_rings(web):
    """All rings' forms, by trying every row of places: for few places alone."""
    found = set()
    for size in range(1, web[0] + 1):
        for row in permutations(range(web[0]), size):
            if row[0] == min(row) and plain_ring(web, row):
                found.add(plain_form(row))
    return sorted(found)


def plain_parts(web):
    parts = [{place} for place in range(web[0])]
    for a, b in web[1]:
        one = [part for part in parts if a in part or b in part]
        parts = [part for part in parts if part not in one] + [set().union(*one)]
    return sorted(tuple(sorted(part)) for part in parts)


def plain_on_ring(web, place):
    """Whether some ring has this place: it has a loop, or two ties that lead into one part of the rest."""
    parts = plain_parts(plain_cut(web, (place,)))
    ends = [b if a == place else a for a, b in web[1] if place in (a, b)]
    return place in ends or any(len([end for end in ends if end in part]) > 1 for part in parts)


def plain_clears(web, places):
    """Whether no ring is left: no tie of the rest closes what hangs together already."""
    heads = list(range(web[0]))

    def head(place):
        while heads[place] != place:
            place = heads[place]
        return place
    for a, b in plain_cut(web, places)[1]:
        if head(a) == head(b):
            return False
        heads[head(a)] = head(b)
    return True


def plain_order(web, order, places=()):
    """Whether an order peels all places but these, by 2.3's and 3.1's words."""
    if sorted(order) != [place for place in range(web[0]) if place not in places]:
        return False
    for at, place in enumerate(order):
        if times(web, place, place) or sum(times(web, place, other) for other in order[at + 1:]) > 1:
            return False
    return True


def plain_length(web):
    """How many places a least ring has, None where there is no ring."""
    if any(a == b for a, b in web[1]):
        return 1
    if len(set(web[1])) < len(web[1]):
        return 2
    lengths = []
    for tie in web[1]:
        others = [other for other in web[1] if other != tie]
        reached = {tie[0]}
        steps = 0
        while tie[1] not in reached:
            wider = reached | {b for a, b in others if a in reached} | {a for a, b in others if b in reached}
            if wider == reached:
                break
            reached = wider
            steps += 1
        else:
            lengths.append(steps + 1)
    return min(lengths, default=None)


def plain_fewest(web):
    """How many places the fewest have that clear: for few places alone."""
    return next(len(places) for places in all_sets(web[0]) if plain_clears(web, places))


def plain_beside(state, place):
    """The ends of ties at a place of a state, each as (other end, way from the place to it)."""
    ends = []
    for a, b, way in state[1]:
        if a == place:
            ends.append((b, way))
        if b == place:
            ends.append((a, way[::-1]))
    return ends


def plain_can(state, step):
    """4.2: whether a step can be done."""
    numbers = step[1:]
    if not step or step[0] not in ("lone", "two", "loop", "many") or len(numbers) != 1 + (step[0] == "many"):
        return False
    if step[0] == "many":
        return numbers[0] < numbers[1] and len([tie for tie in state[1] if tie[:2] == numbers]) > 2
    if numbers[0] not in state[0]:
        return False
    ends = plain_beside(state, numbers[0])
    loops = any(other == numbers[0] for other, way in ends)
    if step[0] == "loop":
        return loops
    if step[0] == "two":
        return len(ends) == 2 and not loops
    return len(ends) <= 1


def plain_done(state, step):
    """4.2: the state behind a step that can be done."""
    left, ties, taken = state
    if step[0] == "many":
        between = [tie for tie in ties if tie[:2] == step[1:]]
        return (left, tuple(sorted([tie for tie in ties if tie[:2] != step[1:]] + between[:2])), taken)
    place = step[1]
    rest = [tie for tie in ties if place not in tie[:2]]
    if step[0] == "two":
        ends = plain_beside(state, place)
        ways = []
        for (one, there), (other, onward) in (ends, ends[::-1]):
            if one <= other:
                ways.append((one, other, there[::-1] + (place,) + onward))
        rest.append(min(ways))
    if step[0] == "loop":
        taken = tuple(sorted(taken + (place,)))
    return (tuple(other for other in left if other != place), tuple(sorted(rest)), taken)


def plain_steps(state):
    """4.2: all steps that can be done, found by trying each."""
    steps = [(word, place) for word in ("lone", "two", "loop") for place in state[0]]
    steps += [("many", a, b) for a in state[0] for b in state[0]]
    return sorted(step for step in steps if plain_can(state, step))


def plain_begin(web):
    return (tuple(range(web[0])), tuple((a, b, ()) for a, b in web[1]), ())


def drawn_log(rng, web, most=61):
    """Steps drawn one behind the other, and all states on the way; perhaps broken off."""
    log = []
    states = [plain_begin(web)]
    for k in range(rng.choice((rng.randrange(most), most))):
        steps = plain_steps(states[-1])
        if not steps:
            break
        log.append(rng.choice(steps))
        states.append(plain_done(states[-1], log[-1]))
    return log, states


def plain_core(web, state):
    return (web[0], tuple((a, b) for a, b, way in state[1]))
