"""Least cuts of one-way webs, with trees of cases that show that none weighs less."""

from ringfell.casetrees import few_open, shown_cut
from ringfell.oneways import cut_oneway, in_lists, out_lists
from ringfell.ranks import round_by, round_off


def place_bits(many):
    bits = []
    bit = 1
    for place in range(many):
        bits.append(bit)
        bit = bit + bit
    return bits


def bits_of(bits, places):
    return sum([bits[place] for place in places])


def with_reach(behind, into, bits, marks, place):
    # A place's mark is all that ways lead to from it, itself too; of places that aren't there
    # nought. A place to which a way leads back closes a round: then there are no marks with it.
    reached = bits[place]
    for other in behind[place]:
        reached = reached | marks[other]
    if reached & into[place]:
        return None
    wider = [mark | reached if mark & into[place] else mark for mark in marks]
    wider[place] = reached
    return wider


def one_least(web, weights, kept):
    places = few_open(web, kept)
    found = round_off(web, places)
    if found is not None:
        return ("never", found)
    behind = out_lists(web)
    bits = place_bits(web[0])
    into = [bits_of(bits, row) for row in in_lists(web)]

    def widen(marks, place):
        return with_reach(behind, into, bits, marks, place)

    def round_of(closing):
        rest = cut_oneway(web, [place for place in places if place not in closing])
        return round_by(rest, [arrow for arrow in rest[1] if arrow[0] == closing[0]])

    return shown_cut("round", weights, kept, places, widen, [0] * web[0], round_of)
