"""One-way webs, drawn and named, and 10.1's words said plainly, without the program."""

import random
from itertools import permutations


def oneway(many, pairs):
    return (many, tuple(sorted(set(pairs))))


def all_pairs(many, loops=True):
    return [(a, b) for a in range(many) for b in range(many) if loops or a != b]


def drawn_oneway(rng, many, count, loops=True):
    return oneway(many, rng.sample(all_pairs(many, loops), count))


def whole_oneway(many):
    return oneway(many, all_pairs(many, False))


def circled(many):
    return oneway(many, [(place, (place + 1) % many) for place in range(many)])


def behind(*webs):
    """One-way webs one behind the other, without arrows between."""
    many = 0
    pairs = []
    for web in webs:
        pairs += [(a + many, b + many) for a, b in web[1]]
        many += web[0]
    return oneway(many, pairs)


def small_oneways(seed, count, most=5):
    rng = random.Random(seed)
    webs = [(0, ()), (1, ()), (1, ((0, 0),)), (2, ((0, 1), (1, 0))), circled(3), whole_oneway(4)]
    while len(webs) < count:
        many = rng.randrange(1, most + 1)
        loops = rng.random() < 0.5
        arrows = min(len(all_pairs(many, loops)), 3 * many)
        webs.append(drawn_oneway(rng, many, rng.randrange(arrows + 1), loops))
    return webs


def large_oneways(seed):
    rng = random.Random(seed)
    webs = [(40, ()), circled(40), oneway(40, [(place, place) for place in range(40)])]
    webs += [drawn_oneway(rng, 40, count) for count in (20, 40, 60, 100, 199, 200)]
    return webs + [drawn_oneway(rng, 15, 200), drawn_oneway(rng, 21, 200, False)]


def plain_round(web, places):
    """10.1, word by word."""
    if not places or len(set(places)) < len(places):
        return False
    return all((places[at], places[(at + 1) % len(places)]) in web[1] for at in range(len(places)))


def plain_rounds(web):
    """All rounds' forms, by trying every row of places: for few places alone."""
    return sorted(row for size in range(1, web[0] + 1) for row in permutations(range(web[0]), size)
                  if row[0] == min(row) and plain_round(web, row))
