"""Ranks of one-way webs, or a round; knots; what clears."""

from ringfell.oneways import cut_oneway, in_lists, out_lists, round_form
from ringfell.rings import shortest_of, way_about
from ringfell.webs import reached_from


def first_ranks(web):
    # As many places as can be ranked, at each turn the least one that can stand there.
    behind = out_lists(web)
    counts = [len(row) for row in in_lists(web)]
    ready = [place for place in range(web[0]) if counts[place] == 0]
    ranks = []
    while ready:
        place = min(ready)
        ready.remove(place)
        ranks.append(place)
        for other in behind[place]:
            counts[other] -= 1
            if counts[other] == 0:
                ready.append(other)
    return ranks


def has_ranks(web):
    return len(first_ranks(web)) == web[0]


def round_along(web, ahead, arrow):
    # A round with as few places as any that goes along this arrow; None without one.
    if arrow[0] == arrow[1]:
        return (arrow[0],)
    if (arrow[1], arrow[0]) in web[1]:
        return arrow
    return way_about(ahead, arrow[0], arrow[1])


def round_by(web, arrows):
    # The form of a least one of the rounds that go along one of these arrows; None without one.
    ahead = in_lists(web)
    least = shortest_of([round_along(web, ahead, arrow) for arrow in arrows])
    if least is None:
        return None
    return round_form(least)


def ranked_web(web):
    ranks = first_ranks(web)
    if len(ranks) == web[0]:
        return ("ranks", tuple(ranks))
    return ("round", round_by(web, web[1]))


def ranks_right(web, order):
    if sorted(order) != list(range(web[0])):
        return False
    return all([order.index(arrow[0]) < order.index(arrow[1]) for arrow in web[1]])


def knots_of(web):
    behind = out_lists(web)
    ahead = in_lists(web)
    knots = []
    for place in range(web[0]):
        leading = reached_from(ahead, place)
        knot = [other for other in reached_from(behind, place) if other in leading]
        if knot[0] == place:
            knots.append(tuple(knot))
    return knots


def clears_oneway(web, places):
    return has_ranks(cut_oneway(web, places))


def round_off(web, places):
    rest = cut_oneway(web, places)
    return round_by(rest, rest[1])
