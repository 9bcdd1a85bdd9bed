"""6.1 to 6.3, 11.1 and 11.2 said plainly: least cuts, and what trees of cases show; and trees to try them with.

What is asked of webs or of one-way webs is told a kind: (the word of a tree of kept places alone, what is a
ring or round, all of them, from where on one may be told, what clears).
"""

from tests.helpers import all_sets, plain_clears, plain_ring, plain_rings, turned
from tests.ways import plain_clearing, plain_round, plain_rounds, rotated

RINGS = ("ring", plain_ring, plain_rings, turned, plain_clears)
ROUNDS = ("round", plain_round, plain_rounds, rotated, plain_clearing)


def weigh(weights, places):
    return sum(weights[place] for place in places)


def plain_least(web, weights, kept, kind=RINGS):
    """The least weight of a set without kept places that clears, None where there is none: of few places alone."""
    best = None
    for places in all_sets(web[0]):
        if not set(places) & set(kept) and kind[4](web, places):
            weight = weigh(weights, places)
            if best is None or weight < best:
                best = weight
    return best


def plain_case(web, weights, taken, kept, tree, kind):
    """A number, "never", or None, by 6.2's and 6.3's words; taken and kept are frozensets."""
    free = set(range(web[0])) - taken - kept
    if tree[0] == kind[0]:
        return "never" if kind[1](web, tree[1]) and set(tree[1]) <= kept else None
    if tree[0] == "shares":
        for ring, share in tree[1]:
            if share < 1 or not kind[1](web, ring) or set(ring) & taken or not set(ring) & free:
                return None
        for place in free:
            if sum(share for ring, share in tree[1] if place in ring) > weights[place]:
                return None
        return weigh(weights, taken) + sum(share for ring, share in tree[1])
    word, place, first, second = tree
    if place not in free:
        return None
    shown = (plain_case(web, weights, taken | {place}, kept, first, kind),
             plain_case(web, weights, taken, kept | {place}, second, kind))
    if None in shown:
        return None
    return min([number for number in shown if number != "never"], default="never")


def plain_shows(web, weights, kept, tree, kind=RINGS):
    """What tree_shows, or one_shows, is to tell."""
    shown = plain_case(web, weights, frozenset(), frozenset(kept), tree, kind)
    if shown is None:
        return None
    return ("never",) if shown == "never" else ("least", shown)


def drawn_weights(rng, many):
    sort = rng.randrange(5)
    if sort == 0:
        return [1] * many
    if sort == 1:
        return [rng.randrange(4) for place in range(many)]
    if sort == 2:
        return [rng.randrange(1, 10) for place in range(many)]
    if sort == 3:
        return [rng.choice((0, 10 ** 60, 10 ** 60 - 1, rng.randrange(10 ** 60))) for place in range(many)]
    return [rng.randrange(10 ** 59, 10 ** 60) for place in range(many)]


def drawn_leaf(rng, web, weights, taken, kept, rings, kind):
    """A right tree without parts; a ring where that can be, mostly."""
    held = [ring for ring in rings if set(ring) <= set(kept)]
    if held and rng.random() < 0.8:
        return (kind[0], rng.choice(kind[3](rng.choice(held))))
    spare = list(weights)
    rows = []
    for ring in rng.sample(rings, len(rings)) + rng.sample(rings, len(rings) // 2):
        free = [place for place in ring if place not in kept]
        if free and not set(ring) & set(taken) and rng.random() < 0.8:
            most = min(spare[place] for place in free)
            if most > 0:
                share = rng.choice((1, most, rng.randrange(1, most + 1)))
                rows.append((rng.choice(kind[3](ring)), share))
                for place in free:
                    spare[place] -= share
    return ("shares", rows if rng.random() < 0.5 else tuple(rows))


def drawn_tree(rng, web, weights, taken, kept, rings, depth, kind):
    """A right tree."""
    free = [place for place in range(web[0]) if place not in taken and place not in kept]
    if not free or depth == 0 or rng.random() < 0.25:
        return drawn_leaf(rng, web, weights, taken, kept, rings, kind)
    place = rng.choice(free)
    return ("part", place, drawn_tree(rng, web, weights, taken + (place,), kept, rings, depth - 1, kind),
            drawn_tree(rng, web, weights, taken, kept + (place,), rings, depth - 1, kind))


def drawn_case(rng, web, depth=4, kind=RINGS):
    """Weights, kept places and a right tree for a web of few places."""
    weights = drawn_weights(rng, web[0])
    kept = tuple(place for place in range(web[0]) if rng.random() < 0.3)
    tree = drawn_tree(rng, web, weights, (), kept, kind[2](web), depth, kind)
    return weights if rng.random() < 0.5 else tuple(weights), kept, tree


def swapped(tree, at, change):
    """The tree with its thing number at, counted through, changed; and how many things were passed."""
    if isinstance(tree, int):
        return (change(tree) if at == 0 else tree), 1
    if isinstance(tree, str):
        return tree, 0
    passed = 0
    parts = []
    for part in tree:
        part, count = swapped(part, at - passed, change)
        parts.append(part)
        passed += count
    return type(tree)(parts), passed


def count_numbers(tree):
    return swapped(tree, -1, None)[1]


def count_trees(tree):
    return 1 + (count_trees(tree[2]) + count_trees(tree[3]) if tree[0] == "part" else 0)


def drawn_change(rng, tree, numbers):
    """The tree with one of its numbers made another one."""
    count = count_numbers(tree)
    if not count:
        return tree
    number = rng.choice(numbers)
    change = rng.choice((lambda old: number, lambda old: old + 1, lambda old: old - 1, lambda old: -old))
    return swapped(tree, rng.randrange(count), change)[0]


def all_leaves(tree):
    if tree[0] != "part":
        return [tree]
    return all_leaves(tree[2]) + all_leaves(tree[3])
