"""A set that clears, with a paper of layers: it weighs at most twice the paper's bound."""

from ringfell.clears import clears_web, without_place
from ringfell.layerjudge import layer_takes
from ringfell.ratios import ratio_less, ratio_minus, ratio_of, ratio_times
from ringfell.rings import least_ring
from ringfell.webs import cut_web, ties_at
from ringfell.woods import peeled_places


def trimmed_web(web, places):
    # Without these places, and without all that no ring can have then: so each place has two ties
    # at least, or none.
    rest = cut_web(web, places)
    return cut_web(rest, peeled_places(rest))


def loose_ring(web, counts):
    # A ring of which at most one place has more than two ties, None without one: a set that is
    # least by leaving out has just one place of it.
    full = tuple([place for place in range(web[0]) if counts[place] > 2])
    # None stands for no such place: where all have two ties, there is nothing to spare.
    for spared in full + (None,):
        others = without_place(full, spared)
        if not clears_web(web, others):
            return least_ring(cut_web(web, others))
    return None


def least_ratio(ratios):
    least = ratios[0]
    for ratio in ratios:
        if ratio_less(ratio, least):
            least = ratio
    return least


def next_layer(web, spare):
    counts = [ties_at(web, place) for place in range(web[0])]
    ring = loose_ring(web, counts)
    if ring is not None:
        return ("ring", ring, least_ratio([spare[place] for place in ring]))
    # Without such a ring the places of a set that is least by leaving out have, of ties less 1
    # added, at most twice as many as the ties layer counts.
    places = tuple([place for place in range(web[0]) if counts[place] > 0])
    shares = [ratio_times(spare[place], (1, counts[place] - 1)) for place in places]
    return ("ties", places, least_ratio(shares))


def last_spared(web, taken):
    # What was taken last is spared first: so what stays is least by leaving out not only of the
    # web, but of each that was left when a layer was laid.
    needed = taken
    for place in reversed(taken):
        fewer = without_place(needed, place)
        if clears_web(web, fewer):
            needed = fewer
    return tuple(sorted(needed))


def two_times(web, weights):
    spare = [ratio_of(weight) for weight in weights]
    taken = ()
    paper = []
    rest = trimmed_web(web, taken)
    while rest[1]:
        used = [place for place in range(web[0]) if spare[place] == (0, 1) and ties_at(rest, place) > 0]
        if used:
            taken = taken + tuple(used)
            rest = trimmed_web(rest, used)
        else:
            layer = next_layer(rest, spare)
            paper.append(layer)
            spare = [ratio_minus(one, other) for one, other in zip(spare, layer_takes(rest, layer))]
    return (last_spared(web, taken), paper)
