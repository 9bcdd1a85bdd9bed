"""One-way webs, drawn and named, and 10.1's words said plainly, without the program."""

import random
from itertools import permutations


def oneway(many, pairs):
    return (many, tuple(sorted(set(pairs))))


def all_pairs(many, loops=True):
    return [(a, b) for a in range(many) for b in range(many) if loops or a != b]


def drawn_oneway(rng, many, count, loops=True):
    return oneway(many, rng.sample(all_pairs(many, loops), count))


def whole_oneway(many):
    return oneway(many, all_pairs(many, False))


def circled(many):
    return oneway(many, [(place, (place + 1) % many) for place in range(many)])


def behind(*webs):
    """One-way webs one behind the other, without arrows between."""
    many = 0
    pairs = []
    for web in webs:
        pairs += [(a + many, b + many) for a, b in web[1]]
        many += web[0]
    return oneway(many, pairs)


def small_oneways(seed, count, most=5):
    rng = random.Random(seed)
    webs = [(0, ()), (1, ()), (1, ((0, 0),)), (2, ((0, 1), (1, 0))), circled(3), whole_oneway(4)]
    while len(webs) < count:
        many = rng.randrange(1, most + 1)
        loops = rng.random() < 0.5
        arrows = min(len(all_pairs(many, loops)), 3 * many)
        webs.append(drawn_oneway(rng, many, rng.randrange(arrows + 1), loops))
    return webs


def large_oneways(seed):
    rng = random.Random(seed)
    webs = [(40, ()), circled(40), oneway(40, [(place, place) for place in range(40)])]
    webs += [drawn_oneway(rng, 40, count) for count in (20, 40, 60, 100, 199, 200)]
    return webs + [drawn_oneway(rng, 15, 200), drawn_oneway(rng, 21, 200, False)]


def plain_round(web, places):
    """10.1, word by word."""
    if not places or len(set(places)) < len(places):
        return False
    return all((places[at], places[(at + 1) % len(places)]) in web[1] for at in range(len(places)))


def plain_rounds(web):
    """All rounds' forms, by trying every row of places: for few places alone."""
    return sorted(row for size in range(1, web[0] + 1) for row in permutations(range(web[0]), size)
                  if row[0] == min(row) and plain_round(web, row))


def rotated(row):
    """A round from each of its places on."""
    return [tuple(row[at:]) + tuple(row[:at]) for at in range(len(row))]


def plain_gone(row):
    """The arrows by which a round goes."""
    return [(row[at], row[(at + 1) % len(row)]) for at in range(len(row))]


def plain_without(web, arrows):
    """12.2: the web without a set of arrows."""
    return (web[0], tuple(arrow for arrow in web[1] if arrow not in arrows))


def plain_rest(web, places):
    """10.1: the web cut by places."""
    return (web[0], tuple(arrow for arrow in web[1] if not set(arrow) & set(places)))


def plain_free(web):
    """Whether there is no round: places to which no arrow leads are taken off until none is left."""
    places = set(range(web[0]))
    while places:
        heads = {b for a, b in web[1] if a in places}
        if places <= heads:
            return False
        places &= heads
    return True


def plain_clearing(web, places):
    return plain_free(plain_rest(web, places))


def plain_reached(pairs, place):
    """All places to which ways lead, the place itself too."""
    reached = {place}
    wider = {b for a, b in pairs if a in reached}
    while not wider <= reached:
        reached |= wider
        wider = {b for a, b in pairs if a in reached}
    return reached


def plain_together(pairs, one, other):
    """10.2: whether ways lead from each to the other."""
    return other in plain_reached(pairs, one) and one in plain_reached(pairs, other)


def plain_onecan(state, step):
    """10.3: whether a step can be."""
    pairs = [(a, b) for a, b, way in state[1]]
    if step[0] == "apart":
        return len(step) == 3 and step[1:] in pairs and not plain_together(pairs, *step[1:])
    if len(step) != 2 or step[1] not in state[0]:
        return False
    tails = [a for a, b in pairs if b == step[1]]
    heads = [b for a, b in pairs if a == step[1]]
    if step[0] == "source":
        return not tails
    if step[0] == "sink":
        return not heads
    if step[0] == "loop":
        return step[1] in tails
    if step[0] == "in":
        return len(tails) == 1 and tails[0] != step[1]
    return step[0] == "out" and len(heads) == 1 and heads[0] != step[1]


def plain_onesteps(state):
    """10.3: all steps that can be, found by trying each."""
    steps = [(word, place) for word in ("source", "sink", "loop", "in", "out") for place in state[0]]
    steps += [("apart", a, b) for a in state[0] for b in state[0]]
    return sorted(step for step in steps if plain_onecan(state, step))


def plain_onedone(state, step):
    """10.3: the state behind a step that can be."""
    left, arrows, taken = state
    if step[0] == "apart":
        return (left, tuple(arrow for arrow in arrows if arrow[:2] != step[1:]), taken)
    v = step[1]
    rows = {(a, b): [way] for a, b, way in arrows if v not in (a, b)}
    if step[0] in ("in", "out"):
        for u, head, first in arrows:
            for tail, w, second in arrows:
                if head == v and tail == v:
                    rows.setdefault((u, w), []).append(first + (v,) + second)
    if step[0] == "loop":
        taken = tuple(sorted(taken + (v,)))
    best = [(a, b, min(ways, key=lambda way: (len(way), way))) for (a, b), ways in rows.items()]
    return (tuple(place for place in left if place != v), tuple(sorted(best)), taken)


def plain_onebegin(web):
    return (tuple(range(web[0])), tuple((a, b, ()) for a, b in web[1]), ())


def drawn_onelog(rng, web, most=60):
    """Steps drawn one behind the other, and all states on the way; perhaps broken off."""
    log = []
    states = [plain_onebegin(web)]
    for k in range(rng.choice((rng.randrange(most), most))):
        steps = plain_onesteps(states[-1])
        if not steps:
            break
        # In and out by choice, as they are what makes ways.
        joins = [step for step in steps if step[0] in ("in", "out")]
        log.append(rng.choice(joins if joins and rng.random() < 0.5 else steps))
        states.append(plain_onedone(states[-1], log[-1]))
    return log, states


def all_onestates(web):
    """All states that some log leads to."""
    met = {plain_onebegin(web)}
    ready = list(met)
    while ready:
        state = ready.pop()
        for step in plain_onesteps(state):
            behind_it = plain_onedone(state, step)
            if behind_it not in met:
                met.add(behind_it)
                ready.append(behind_it)
    return sorted(met)


def plain_onecore(web, state):
    return (web[0], tuple((a, b) for a, b, way in state[1]))


def few_arrows(seed, count, most=6, arrows=14):
    """Small one-way webs of at most so many arrows."""
    return [web for web in small_oneways(seed, count, most) if len(web[1]) <= arrows]
