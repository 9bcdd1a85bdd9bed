"""7.2 said plainly, with Python's own fractions; and papers to try the judges with."""

from fractions import Fraction
from math import gcd

from tests.helpers import plain_form, plain_ring, plain_rings


def pair_of(fraction):
    return (fraction.numerator, fraction.denominator)


def ties_inside(web, places, place):
    """The ties of a place within these places, a loop counting twice."""
    return sum(tie.count(place) for tie in web[1] if place in tie and tie[0] in places and tie[1] in places)


def plain_layer(web, layer):
    """Whether it is a layer."""
    word, places, (top, bottom) = layer
    if bottom < 1 or gcd(top, bottom) != 1 or top <= 0:
        return False
    if word == "ring":
        return plain_ring(web, places) and plain_form(places) == places
    if word != "ties" or not places or list(places) != sorted(set(places)):
        return False
    return set(places) <= set(range(web[0])) and all(ties_inside(web, places, place) >= 2 for place in places)


def plain_takes(web, layer):
    word, places, share = layer
    if word == "ring":
        return [Fraction(*share) * (place in places) for place in range(web[0])]
    return [Fraction(*share) * (ties_inside(web, places, place) - 1) if place in places else Fraction(0)
            for place in range(web[0])]


def plain_adds(web, layer):
    word, places, share = layer
    if word == "ring":
        return Fraction(*share)
    inside = [tie for tie in web[1] if tie[0] in places and tie[1] in places]
    return Fraction(*share) * (len(inside) - len(places) + 1)


def plain_bound(web, weights, paper):
    """The bound of a paper that holds, as a fraction; None of another one."""
    if not all(plain_layer(web, layer) for layer in paper):
        return None
    takes = [plain_takes(web, layer) for layer in paper]
    for place in range(web[0]):
        if sum(row[place] for row in takes) > weights[place]:
            return None
    return sum((plain_adds(web, layer) for layer in paper), Fraction(0))


def shrunk(web, places):
    """What is left of these places where those with fewer than two ties within are left out, over and over."""
    places = set(places)
    while True:
        few = {place for place in places if ties_inside(web, places, place) < 2}
        if not few:
            return tuple(sorted(places))
        places -= few


def drawn_layer(rng, web, rings, spare):
    """A layer that takes no more than is spare, often all that is; None where none was found."""
    if rng.random() < 0.5:
        if not rings:
            return None
        layer = ("ring", rng.choice(rings), (1, 1))
    else:
        places = shrunk(web, [place for place in range(web[0]) if rng.random() < 0.8])
        if not places:
            return None
        layer = ("ties", places, (1, 1))
    takes = plain_takes(web, layer)
    most = min(spare[place] / takes[place] for place in range(web[0]) if takes[place])
    share = most * rng.choice((1, 1, Fraction(1, 2), Fraction(rng.randrange(1, 9), 9)))
    return layer[:2] + (pair_of(share),) if share > 0 else None


def drawn_paper(rng, web, weights, most=5):
    """A paper that holds."""
    spare = [Fraction(weight) for weight in weights]
    rings = plain_rings(web)
    paper = []
    for k in range(rng.randrange(most + 1)):
        layer = drawn_layer(rng, web, rings, spare)
        if layer:
            paper.append(layer)
            spare = [one - other for one, other in zip(spare, plain_takes(web, layer))]
    return paper
