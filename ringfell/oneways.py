"""One-way webs, tuples (many, arrows): how they are made, asked and changed, and their rounds."""

from ringfell.errors import BadWeb, NoTie, TooMany
from ringfell.webs import MOST_PLACES, MOST_TIES, is_pair, is_whole

MOST_ROUNDS = 300


def checked_oneway(many, arrows):
    if len(arrows) > MOST_TIES:
        raise TooMany("a one-way web has at most 200 arrows")
    return (many, tuple(sorted(arrows)))


def made_oneway(many, arrows):
    if not is_whole(many) or not 0 <= many <= MOST_PLACES or not isinstance(arrows, (list, tuple)):
        raise BadWeb(-1)
    met = {}
    for at, thing in enumerate(arrows):
        if not is_pair(many, thing) or (thing[0], thing[1]) in met:
            raise BadWeb(at)
        met[(thing[0], thing[1])] = True
    return checked_oneway(many, list(met))


def arrows_out(web, place):
    return tuple([arrow[1] for arrow in web[1] if arrow[0] == place])


def arrows_in(web, place):
    return tuple([arrow[0] for arrow in web[1] if arrow[1] == place])


def out_lists(web):
    # The heads of every place's arrows at once, for walks that ask for them again and again.
    lists = [[] for place in range(web[0])]
    for arrow in web[1]:
        lists[arrow[0]].append(arrow[1])
    return lists


def in_lists(web):
    return out_lists(turned_arrows(web))


def cut_oneway(web, places):
    return (web[0], tuple([arrow for arrow in web[1] if arrow[0] not in places and arrow[1] not in places]))


def put_arrow(web, one, other):
    if (one, other) in web[1]:
        return web
    return checked_oneway(web[0], web[1] + ((one, other),))


def less_arrow(web, one, other):
    if (one, other) not in web[1]:
        raise NoTie("there is no arrow from the one to the other")
    return (web[0], tuple([arrow for arrow in web[1] if arrow != (one, other)]))


def turned_arrows(web):
    return (web[0], tuple(sorted([(arrow[1], arrow[0]) for arrow in web[1]])))


def both_ways(web):
    about = [(tie[1], tie[0]) for tie in web[1]]
    return checked_oneway(web[0], sorted(set(list(web[1]) + about)))


def round_arrows(places):
    # The first place has the last one ahead of it; of one place alone this is its loop.
    return [(places[at - 1], place) for at, place in enumerate(places)]


def is_round(web, places):
    if len(places) == 0 or len(set(places)) != len(places):
        return False
    return all([arrow in web[1] for arrow in round_arrows(places)])


def round_form(places):
    at = places.index(min(places))
    return tuple(places[at:]) + tuple(places[:at])


def leading_back(ahead, way):
    # The places behind the way's first one, and not on the way, from which it can still be led back.
    leading = {}
    ready = [way[0]]
    while ready:
        place = ready.pop()
        for other in ahead[place]:
            if other > way[0] and other not in way and other not in leading:
                leading[other] = True
                ready.append(other)
    return leading


def go_round(behind, ahead, way, found):
    # Only steps that still lead back are taken, so each way gone on with ends in a round: the work
    # stays within what the rounds found are worth.
    if way[0] in behind[way[-1]]:
        if len(found) >= MOST_ROUNDS:
            raise TooMany("the one-way web has more than 300 rounds")
        found.append(way)
    leading = leading_back(ahead, way)
    for place in behind[way[-1]]:
        if place in leading:
            go_round(behind, ahead, way + (place,), found)


def all_rounds(web):
    behind = out_lists(web)
    ahead = in_lists(web)
    found = []
    for first in range(web[0]):
        go_round(behind, ahead, (first,), found)
    return sorted(found)
