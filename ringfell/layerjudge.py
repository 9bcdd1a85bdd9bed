"""Judges papers of layers: whether one holds for weights, and its bound."""

from ringfell.ratios import is_ratio, ratio_less, ratio_of, ratio_plus, ratio_times
from ringfell.rings import is_ring, ring_form
from ringfell.webs import is_set_of, ties_within

NOUGHT = (0, 1)


def ties_among(web, places):
    # Of each place how many ties it has within these places; a loop counts twice.
    counts = [0] * web[0]
    for tie in web[1]:
        if tie[0] in places and tie[1] in places:
            counts[tie[0]] += 1
            counts[tie[1]] += 1
    return counts


def layer_takes(web, layer):
    takes = [NOUGHT] * web[0]
    counts = ties_among(web, layer[1])
    for place in layer[1]:
        takes[place] = layer[2]
        if layer[0] == "ties":
            takes[place] = ratio_times(layer[2], ratio_of(counts[place] - 1))
    return takes


def layer_bound(web, layer):
    if layer[0] == "ring":
        return layer[2]
    return ratio_times(layer[2], ratio_of(ties_within(web, layer[1]) - len(layer[1]) + 1))


def is_formed_ring(web, ring):
    return is_ring(web, ring) and ring_form(ring) == ring


def is_tied_set(web, places):
    if len(places) == 0 or not is_set_of(web, places):
        return False
    counts = ties_among(web, places)
    return all([counts[place] >= 2 for place in places])


def is_layer(web, layer):
    if not is_ratio(layer[2]) or not ratio_less(NOUGHT, layer[2]):
        return False
    if layer[0] == "ring":
        return is_formed_ring(web, layer[1])
    return layer[0] == "ties" and is_tied_set(web, layer[1])


def paper_bound(web, weights, paper):
    bound = NOUGHT
    taken = [NOUGHT] * web[0]
    for layer in paper:
        if not is_layer(web, layer):
            return None
        bound = ratio_plus(bound, layer_bound(web, layer))
        taken = [ratio_plus(one, other) for one, other in zip(taken, layer_takes(web, layer))]
    if any([ratio_less(ratio_of(weight), took) for weight, took in zip(weights, taken)]):
        return None
    return bound
