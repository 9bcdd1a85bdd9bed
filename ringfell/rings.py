"""Rings of webs: what is one, its form, all of them, a least one."""

from ringfell.errors import TooMany
from ringfell.webs import near_lists, tied_times

MOST_RINGS = 300


def is_ring(web, ring):
    if len(ring) == 0 or len(set(ring)) != len(ring):
        return False
    if len(ring) == 2:
        return tied_times(web, ring[0], ring[1]) >= 2
    for at, place in enumerate(ring):
        # Of one place alone this asks for its loop; the first place has the last one ahead of it.
        if tied_times(web, ring[at - 1], place) == 0:
            return False
    return True


def ring_form(ring):
    at = ring.index(min(ring))
    onward = tuple(ring[at:]) + tuple(ring[:at])
    return min(onward, onward[:1] + tuple(reversed(onward[1:])))


def add_ring(found, ring):
    if len(found) >= MOST_RINGS:
        raise TooMany("the web has more than 300 rings")
    found.append(ring)


def short_rings(web):
    found = []
    for tie in sorted(set(web[1])):
        if tie[0] == tie[1]:
            add_ring(found, (tie[0],))
        elif tied_times(web, tie[0], tie[1]) >= 2:
            add_ring(found, tie)
    return found


def leading_back(near, way, lasts):
    # The places beyond the way from which it can still be led to one of its last places.
    barred = {}
    for place in way:
        barred[place] = True
    ready = [last for last in lasts if last not in barred]
    leading = {}
    for last in ready:
        leading[last] = True
    while ready:
        place = ready.pop()
        for other in near[place]:
            if other > way[0] and other not in barred and other not in leading:
                leading[other] = True
                ready.append(other)
    return leading


def go_round(near, way, lasts, found):
    # Only steps that still lead back are taken, so each way gone on with ends in a ring:
    # the work stays within what the rings found are worth.
    leading = leading_back(near, way, lasts)
    for place in near[way[-1]]:
        if place in leading:
            if place in lasts:
                add_ring(found, way + (place,))
            go_round(near, way + (place,), lasts, found)


def all_rings(web):
    found = short_rings(web)
    near = near_lists(web)
    for first in range(web[0]):
        for second in near[first]:
            if second > first:
                # First the least place, and the last above the second: so each ring comes
                # once, in its form.
                lasts = [place for place in near[first] if place > second]
                go_round(near, (first, second), lasts, found)
    return sorted(found)


def way_about(near, start, goal):
    # A shortest way from start to goal, but not by the tie between them; None without one.
    came = {start: None}
    ready = [start]
    while ready and goal not in came:
        further = []
        for place in ready:
            for other in near[place]:
                if other not in came and (place != start or other != goal):
                    came[other] = place
                    further.append(other)
        ready = further
    if goal not in came:
        return None
    way = []
    place = goal
    while place is not None:
        way.append(place)
        place = came[place]
    return tuple(way)


def ring_along(web, near, tie):
    # A ring with as few places as any that goes along this tie; None without one.
    if tie[0] == tie[1]:
        return (tie[0],)
    if tied_times(web, tie[0], tie[1]) >= 2:
        return tie
    return way_about(near, tie[0], tie[1])


def shortest_of(ways):
    return min([way for way in ways if way is not None], key=len, default=None)


def least_along(web, ties):
    # The form of a least one of the rings that go along one of these ties; None without one.
    near = near_lists(web)
    least = shortest_of([ring_along(web, near, tie) for tie in sorted(set(ties))])
    if least is None:
        return None
    return ring_form(least)


def least_ring(web):
    return least_along(web, web[1])


def ring_at(web, place):
    return least_along(web, [tie for tie in web[1] if place in tie])
