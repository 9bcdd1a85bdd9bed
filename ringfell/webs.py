"""Webs, tuples (many, ties): how they are made, asked and changed."""

from ringfell.errors import BadWeb, NoTie, TooMany

MOST_PLACES = 40
MOST_TIES = 200


def is_whole(thing):
    return isinstance(thing, int) and not isinstance(thing, bool)


def is_place(many, thing):
    return is_whole(thing) and 0 <= thing < many


def is_pair(many, thing):
    if not isinstance(thing, (list, tuple)) or len(thing) != 2:
        return False
    return is_place(many, thing[0]) and is_place(many, thing[1])


def tie_of(one, other):
    return (min(one, other), max(one, other))


def made_web(many, ties):
    if not is_whole(many) or not 0 <= many <= MOST_PLACES or not isinstance(ties, (list, tuple)):
        raise BadWeb(-1)
    for at, thing in enumerate(ties):
        if not is_pair(many, thing):
            raise BadWeb(at)
    if len(ties) > MOST_TIES:
        raise TooMany("a web has at most 200 ties")
    return (many, tuple(sorted([tie_of(pair[0], pair[1]) for pair in ties])))


def ties_at(web, place):
    return sum([tie.count(place) for tie in web[1]])


def near_lists(web):
    # The neighbours of every place at once, for walks that ask for them again and again.
    near = [[] for place in range(web[0])]
    for tie in sorted(set(web[1])):
        if tie[0] != tie[1]:
            near[tie[0]].append(tie[1])
            near[tie[1]].append(tie[0])
    return [sorted(row) for row in near]


def near_places(web, place):
    return tuple(near_lists(web)[place])


def tied_times(web, one, other):
    return web[1].count(tie_of(one, other))


def ties_within(web, places):
    return len([tie for tie in web[1] if tie[0] in places and tie[1] in places])


def is_rising(row):
    return all([one < other for one, other in zip(row, row[1:])])


def is_set_of(web, places):
    # Judges are handed any numbers, so that these are a set must be looked at.
    return is_rising(places) and all([0 <= place < web[0] for place in places])


def cut_web(web, places):
    return (web[0], tuple([tie for tie in web[1] if tie[0] not in places and tie[1] not in places]))


def renamed_web(web, order):
    return (web[0], tuple(sorted([tie_of(order[tie[0]], order[tie[1]]) for tie in web[1]])))


def side_by_side(one, other):
    moved = [(tie[0] + one[0], tie[1] + one[0]) for tie in other[1]]
    return (one[0] + other[0], one[1] + tuple(moved))


def put_tie(web, one, other):
    if len(web[1]) >= MOST_TIES:
        raise TooMany("a web has at most 200 ties")
    return (web[0], tuple(sorted(web[1] + (tie_of(one, other),))))


def less_tie(web, one, other):
    if tied_times(web, one, other) == 0:
        raise NoTie("there is no tie between these places")
    ties = list(web[1])
    ties.remove(tie_of(one, other))
    return (web[0], tuple(ties))


def reached_from(near, start):
    reached = {start: True}
    ready = [start]
    while ready:
        place = ready.pop()
        for other in near[place]:
            if other not in reached:
                reached[other] = True
                ready.append(other)
    return sorted(reached)


def hanging_parts(web):
    near = near_lists(web)
    seen = {}
    parts = []
    for place in range(web[0]):
        if place not in seen:
            part = reached_from(near, place)
            for other in part:
                seen[other] = True
            parts.append(tuple(part))
    return parts


def spare_ties(web):
    return len(web[1]) - web[0] + len(hanging_parts(web))
