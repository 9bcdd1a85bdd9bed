"""Sets of places that clear a web, and what shows that they do."""

from ringfell.errors import NotClear
from ringfell.rings import is_ring, ring_at
from ringfell.webs import cut_web, is_set_of, spare_ties
from ringfell.woods import peeled_web


def clears_web(web, places):
    return spare_ties(cut_web(web, places)) == 0


def shown_clear(web, places):
    shown = peeled_web(cut_web(web, places))
    if shown[0] == "ring":
        return shown
    return ("clears", [place for place in shown[1] if place not in places])


def without_place(places, place):
    return tuple([other for other in places if other != place])


def all_sets(places):
    # All sets of some places, small ones first.
    sets = [()]
    for place in places:
        sets = sets + [one + (place,) for one in sets]
    return sorted(sets, key=len)


def own_ring(web, places, place):
    return ring_at(cut_web(web, without_place(places, place)), place)


def thinned_cut(web, places):
    if not clears_web(web, places):
        raise NotClear("these places don't clear the web")
    needed = places
    for place in places:
        # What is needed once stays needed: with fewer places left, fewer can be spared.
        fewer = without_place(needed, place)
        if clears_web(web, fewer):
            needed = fewer
    return [(place, own_ring(web, needed, place)) for place in needed]


def is_own_ring(web, places, place, ring):
    return is_ring(web, ring) and [other for other in places if other in ring] == [place]


def least_right(web, rows):
    places = tuple([row[0] for row in rows])
    if not is_set_of(web, places) or not clears_web(web, places):
        return False
    return all([is_own_ring(web, places, row[0], row[1]) for row in rows])
