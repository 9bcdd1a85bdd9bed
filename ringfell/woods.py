"""Webs peeled place by place, down to nothing or to a ring."""

from ringfell.rings import least_ring
from ringfell.webs import near_lists, ties_at


def peeled_places(web):
    near = near_lists(web)
    counts = [ties_at(web, place) for place in range(web[0])]
    ready = [place for place in range(web[0]) if counts[place] <= 1]
    gone = {}
    while ready:
        place = ready.pop()
        gone[place] = True
        for other in near[place]:
            if other not in gone:
                # One tie at most leads to places that aren't gone: else it weren't ready.
                counts[other] -= 1
                if counts[other] == 1:
                    ready.append(other)
    return list(gone)


def peeled_web(web):
    order = peeled_places(web)
    if len(order) == web[0]:
        return ("wood", order)
    return ("ring", least_ring(web))


def peel_right(web, order):
    if sorted(order) != list(range(web[0])):
        return False
    stands = {}
    for at, place in enumerate(order):
        stands[place] = at
    onward = [0] * web[0]
    for tie in web[1]:
        if tie[0] == tie[1]:
            return False
        onward[min(stands[tie[0]], stands[tie[1]])] += 1
    return max(onward, default=0) <= 1
