"""Least cuts by all sets of open places, and trees of cases that show them: of rings and of rounds alike."""

from ringfell.clears import without_place
from ringfell.errors import TooMany

MOST_OPEN = 14


def weight_of(weights, places):
    return sum([weights[place] for place in places])


def few_open(web, kept):
    # The places that aren't kept and at which a tie, or an arrow, stands.
    places = [place for place in range(web[0]) if place not in kept and any([place in pair for pair in web[1]])]
    if len(places) > MOST_OPEN:
        raise TooMany("more than 14 places that aren't kept have a tie or an arrow")
    return tuple(places)


def grow_woods(widen, marks, wood, later, woods, closed):
    # All sets of open places that close no ring, and those that a last place closes. Widen tells
    # the marks with one place more, None where that closes a ring.
    woods[wood] = True
    for at, place in enumerate(later):
        wider = widen(marks, place)
        if wider is None:
            closed.append(wood + (place,))
        else:
            grow_woods(widen, wider, wood + (place,), later[at + 1:], woods, closed)


def least_closed(woods, closed):
    # The least sets of open places that close a ring with the kept ones. A set of places clears
    # just where it has one of each.
    least = []
    for places in closed:
        if all([without_place(places, place) in woods for place in places]):
            least.append(places)
    return least


def shared_rows(weights, rings):
    spare = list(weights)
    rows = []
    for pair in sorted(rings, key=lambda ring: len(ring[0])):
        share = min([spare[place] for place in pair[0]])
        if share > 0:
            rows.append((pair[1], share))
            for place in pair[0]:
                spare[place] -= share
    return rows


def parting_place(rings):
    # A place of many short rings: taken it spares them, kept it makes them shorter.
    fewest = min([len(pair[0]) for pair in rings])
    counts = {}
    for pair in rings:
        if len(pair[0]) == fewest:
            for place in pair[0]:
                counts[place] = counts.get(place, 0) + 1
    return max(list(counts), key=lambda place: counts[place])


def case_tree(word, weights, rings, lacking):
    # A tree that shows as much as is lacking, with what is taken already; the rings are those
    # without a taken place, with their open places.
    for pair in rings:
        if len(pair[0]) == 0:
            return (word, pair[1])
    rows = shared_rows(weights, rings)
    if sum([row[1] for row in rows]) >= lacking:
        return ("shares", rows)
    place = parting_place(rings)
    spared = [pair for pair in rings if place not in pair[0]]
    shorter = [(without_place(pair[0], place), pair[1]) for pair in rings]
    first = case_tree(word, weights, spared, lacking - weights[place])
    return ("part", place, first, case_tree(word, weights, shorter, lacking))


def heaviest_of(weights, woods):
    # Of alike heavy ones one with many places, so that none is cut for nothing.
    return max(list(woods), key=lambda wood: (weight_of(weights, wood), len(wood)))


def shown_cut(word, weights, kept, places, widen, marks, ring_of):
    # The marks are those of no places at all; ring_of tells a ring that has of the open places just
    # these. The kept places alone close none.
    for place in kept:
        marks = widen(marks, place)
    woods = {}
    closed = []
    grow_woods(widen, marks, (), places, woods, closed)
    wood = heaviest_of(weights, woods)
    cut = tuple([place for place in places if place not in wood])
    least = weight_of(weights, cut)
    rings = [(closing, ring_of(closing)) for closing in least_closed(woods, closed)]
    return ("cut", least, cut, case_tree(word, weights, rings, least))
