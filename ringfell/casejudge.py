"""Judges trees of cases: what such a tree shows of every set that clears, or that it is none."""

from ringfell.rings import is_ring


def is_open(web, taken, kept, place):
    return 0 <= place < web[0] and place not in taken and place not in kept


def kept_shows(closes, web, kept, ring):
    if closes(web, ring) and all([place in kept for place in ring]):
        return ("never",)
    return None


def is_share(closes, web, taken, kept, ring, share):
    if share < 1 or not closes(web, ring) or any([place in taken for place in ring]):
        return False
    return any([place not in kept for place in ring])


def shares_show(closes, web, weights, taken, kept, rows):
    used = [0] * web[0]
    for row in rows:
        if not is_share(closes, web, taken, kept, row[0], row[1]):
            return None
        for place in row[0]:
            used[place] += row[1]
    for place in range(web[0]):
        if place not in kept and used[place] > weights[place]:
            return None
    return ("least", sum([weights[place] for place in taken]) + sum([row[1] for row in rows]))


def lesser_shown(first, second):
    if first is None or second is None:
        return None
    # In Python's order ("never",) stands behind every ("least", number), as it should.
    return min(first, second)


def case_shows(word, closes, web, weights, taken, kept, tree):
    # Of rings or of rounds: word is what a tree of kept places alone begins with, closes tells
    # whether a tuple is a ring or a round of the web.
    if tree[0] == word:
        return kept_shows(closes, web, kept, tree[1])
    if tree[0] == "shares":
        return shares_show(closes, web, weights, taken, kept, tree[1])
    if tree[0] != "part" or not is_open(web, taken, kept, tree[1]):
        return None
    place = (tree[1],)
    first = case_shows(word, closes, web, weights, taken + place, kept, tree[2])
    second = case_shows(word, closes, web, weights, taken, kept + place, tree[3])
    return lesser_shown(first, second)


def tree_shows(web, weights, kept, tree):
    return case_shows("ring", is_ring, web, weights, (), kept, tree)
