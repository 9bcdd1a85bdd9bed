"""Least cuts of webs, with trees of cases that show that none weighs less."""

from ringfell.clears import without_place
from ringfell.errors import TooMany
from ringfell.rings import least_ring, ring_at
from ringfell.webs import cut_web, ties_at

MOST_OPEN = 14


def weight_of(weights, places):
    return sum([weights[place] for place in places])


def open_places(web, kept):
    return tuple([place for place in range(web[0]) if place not in kept and ties_at(web, place) > 0])


def tie_ends(web):
    # Of each place the other ends of its ties, as often as there are ties; of a loop the place itself.
    ends = [[] for place in range(web[0])]
    for tie in web[1]:
        ends[tie[0]].append(tie[1])
        ends[tie[1]].append(tie[0])
    return ends


def with_place(ends, marks, place):
    # Places that hang together bear the same mark, places that aren't there None. A place whose
    # ties lead twice to one mark closes a ring: then there are no marks with it.
    met = [marks[end] for end in ends[place] if marks[end] is not None]
    if place in ends[place] or len(set(met)) < len(met):
        return None
    wider = [place if mark in met else mark for mark in marks]
    wider[place] = place
    return wider


def grow_woods(ends, marks, wood, later, woods, closed):
    # All sets of open places that close no ring, and those that a last place closes.
    woods[wood] = True
    for at, place in enumerate(later):
        wider = with_place(ends, marks, place)
        if wider is None:
            closed.append(wood + (place,))
        else:
            grow_woods(ends, wider, wood + (place,), later[at + 1:], woods, closed)


def open_rings(web, kept, woods, closed):
    # Of each least set of open places that closes a ring with the kept ones: the set and the ring.
    # A set of places clears just where it has one of each.
    rings = []
    for places in closed:
        if all([without_place(places, place) in woods for place in places]):
            others = [place for place in range(web[0]) if place not in kept and place not in places]
            rings.append((places, ring_at(cut_web(web, others), places[0])))
    return rings


def shared_rows(weights, rings):
    spare = list(weights)
    rows = []
    for pair in sorted(rings, key=lambda ring: len(ring[0])):
        share = min([spare[place] for place in pair[0]])
        if share > 0:
            rows.append((pair[1], share))
            for place in pair[0]:
                spare[place] -= share
    return rows


def parting_place(rings):
    # A place of many short rings: taken it spares them, kept it makes them shorter.
    fewest = min([len(pair[0]) for pair in rings])
    counts = {}
    for pair in rings:
        if len(pair[0]) == fewest:
            for place in pair[0]:
                counts[place] = counts.get(place, 0) + 1
    return max(list(counts), key=lambda place: counts[place])


def case_tree(weights, rings, lacking):
    # A tree that shows as much as is lacking, with what is taken already; the rings are those
    # without a taken place, with their open places.
    for pair in rings:
        if len(pair[0]) == 0:
            return ("ring", pair[1])
    rows = shared_rows(weights, rings)
    if sum([row[1] for row in rows]) >= lacking:
        return ("shares", rows)
    place = parting_place(rings)
    spared = [pair for pair in rings if place not in pair[0]]
    shorter = [(without_place(pair[0], place), pair[1]) for pair in rings]
    first = case_tree(weights, spared, lacking - weights[place])
    return ("part", place, first, case_tree(weights, shorter, lacking))


def heaviest_of(weights, woods):
    # Of alike heavy ones one with many places, so that none is cut for nothing.
    return max(list(woods), key=lambda wood: (weight_of(weights, wood), len(wood)))


def shown_cut(web, weights, kept, places):
    ends = tie_ends(web)
    marks = [None] * web[0]
    for place in kept:
        marks = with_place(ends, marks, place)
    woods = {}
    closed = []
    grow_woods(ends, marks, (), places, woods, closed)
    wood = heaviest_of(weights, woods)
    cut = tuple([place for place in places if place not in wood])
    least = weight_of(weights, cut)
    return ("cut", least, cut, case_tree(weights, open_rings(web, kept, woods, closed), least))


def least_cut(web, weights, kept):
    places = open_places(web, kept)
    if len(places) > MOST_OPEN:
        raise TooMany("more than 14 places that have a tie aren't kept")
    ring = least_ring(cut_web(web, places))
    if ring is not None:
        return ("never", ring)
    return shown_cut(web, weights, kept, places)
