"""Webs with three ties at each place: the fewest places that clear, with a parting that counts just to them."""

from ringfell.clears import all_sets, clears_web
from ringfell.errors import NotClear, NotThree, TooMany
from ringfell.webs import cut_web, hanging_parts, is_set_of, ties_at, ties_within

MOST_THREES = 8


def look_three(web):
    if any([ties_at(web, place) != 3 for place in range(web[0])]):
        raise NotThree("some place has not just three ties")


def look_clear(web, places):
    if not clears_web(web, places):
        raise NotClear("these places don't clear the web")


def parts_among(web, places):
    # Into how many parts these places hang together by ties among them.
    others = [place for place in range(web[0]) if place not in places]
    return len(hanging_parts(cut_web(web, others))) - len(others)


def is_parting(web, parts):
    met = []
    for part in parts:
        if not is_set_of(web, part) or parts_among(web, part) != 1:
            return False
        met.extend(part)
    return sorted(met) == list(range(web[0]))


def worth_of(web, part):
    # What a part adds to the count; its ties within, as of all ties those between parts are taken off.
    within = ties_within(web, part)
    if (within - len(part) + 1) % 2 == 1:
        return 2 + within
    return 1 + within


def parting_twice(web, parts):
    look_three(web)
    if not is_parting(web, parts):
        return None
    return web[0] // 2 + sum([worth_of(web, part) for part in parts]) - len(web[1])


def three_counts(web, places):
    look_three(web)
    look_clear(web, places)
    left = [place for place in range(web[0]) if place not in places]
    return (parts_among(web, left), ties_within(web, places))


def ends_out(web, places, part):
    # The ends in the set of ties that lead out of the part.
    ends = 0
    for tie in web[1]:
        inside = [place for place in tie if place in part]
        if len(inside) == 1 and inside[0] in places:
            ends += 1
    return ends


def part_row(web, places, part):
    left = [place for place in part if place not in places]
    chosen = [place for place in part if place in places]
    return (parts_among(web, left), ties_within(web, chosen), ends_out(web, places, part))


def parting_rows(web, places, parts):
    look_three(web)
    look_clear(web, places)
    return [part_row(web, places, part) for part in parts]


def fewest_places(web):
    clearing = [places for places in all_sets(tuple(range(web[0]))) if clears_web(web, places)]
    return min(clearing, key=len)


def best_parts(worths, best, places):
    # Of all partings of these places one of the greatest worth, by those of fewer places.
    found = None
    for part in worths:
        if part[0] == places[0] and all([place in places for place in part]):
            rest = best[tuple([place for place in places if place not in part])]
            worth = worths[part] + rest[0]
            if found is None or worth > found[0]:
                found = (worth, [part] + rest[1])
    return found


def best_parting(web):
    worths = {}
    best = {(): (0, [])}
    for places in all_sets(tuple(range(web[0]))):
        if parts_among(web, places) == 1:
            worths[places] = worth_of(web, places)
        if places != ():
            best[places] = best_parts(worths, best, places)
    return sorted(best[tuple(range(web[0]))][1])


def three_cut(web):
    look_three(web)
    if web[0] > MOST_THREES:
        raise TooMany("the web has more than eight places")
    return (fewest_places(web), best_parting(web))
