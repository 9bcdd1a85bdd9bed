"""Least sets that cross others, and the bare sets of webs, which the least clearing sets cross."""

from ringfell.clears import all_sets, clears_web, without_place
from ringfell.errors import TooMany
from ringfell.leastsets import few_tied, least_ones

MOST_CROSSING = 200


def common_places(one, other):
    return [place for place in one if place in other]


def lies_within(one, other):
    return len(common_places(one, other)) == len(one)


def crossing_too(crossing, places):
    # The least sets that cross these places too, of those that cross the sets ahead of them.
    crossed = [one for one in crossing if common_places(one, places)]
    others = [one for one in crossing if not common_places(one, places)]
    found = list(crossed)
    for place in places:
        # A set that gets this place now is least but where it holds one that crossed already, by
        # this place: two that get a place now never hold one another.
        rests = [without_place(one, place) for one in crossed if place in one]
        for other in others:
            if not any([lies_within(rest, other) for rest in rests]):
                found.append(tuple(sorted(other + (place,))))
    return found


def crossed_sets(sets):
    crossing = [()]
    for places in sets:
        crossing = crossing_too(crossing, places)
        if len(crossing) > MOST_CROSSING:
            raise TooMany("more than 200 least sets cross these")
    return sorted(crossing)


def holds_ring(web, tied, places):
    return not clears_web(web, [place for place in tied if place not in places])


def bare_rings(web):
    tied = few_tied(web)
    return least_ones([places for places in all_sets(tied) if holds_ring(web, tied, places)])
