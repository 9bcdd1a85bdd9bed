"""All least clearing sets of webs with few tied places, what they say of each place, and counts by size."""

from ringfell.clears import all_sets, clears_web, without_place
from ringfell.errors import TooMany
from ringfell.webs import ties_at

MOST_TIED = 9


def few_tied(web):
    places = tuple([place for place in range(web[0]) if ties_at(web, place) > 0])
    if len(places) > MOST_TIED:
        raise TooMany("more than nine places have ties")
    return places


def least_ones(sets):
    # Of sets among which each that holds one of them is, too: those that hold no other one.
    known = {}
    for places in sets:
        known[places] = True
    least = []
    for places in sets:
        if not any([without_place(places, place) in known for place in places]):
            least.append(places)
    return sorted(least)


def clearing_sets(web):
    return [places for places in all_sets(few_tied(web)) if clears_web(web, places)]


def least_sets(web):
    return least_ones(clearing_sets(web))


def place_kind(sets, place):
    having = [places for places in sets if place in places]
    lacking = [places for places in sets if place not in places]
    if len(lacking) == 0:
        return ("all",)
    if len(having) == 0:
        return ("none",)
    return ("some", having[0], lacking[0])


def place_kinds(web):
    least = least_sets(web)
    fewest = min([len(places) for places in least])
    sets = [places for places in least if len(places) == fewest]
    return (fewest, [place_kind(sets, place) for place in range(web[0])])


def clear_counts(web):
    tied = few_tied(web)
    counts = [0] * (len(tied) + 1)
    for places in clearing_sets(web):
        counts[len(places)] += 1
    for bare in range(web[0] - len(tied)):
        # With one place more that has no ties: sets without it, and sets with it.
        counts = [one + other for one, other in zip(counts + [0], [0] + counts)]
    return counts
