"""Least cuts of webs, with trees of cases that show that none weighs less."""

from ringfell.casetrees import few_open, shown_cut
from ringfell.rings import least_ring, ring_at
from ringfell.webs import cut_web


def tie_ends(web):
    # Of each place the other ends of its ties, as often as there are ties; of a loop the place itself.
    ends = [[] for place in range(web[0])]
    for tie in web[1]:
        ends[tie[0]].append(tie[1])
        ends[tie[1]].append(tie[0])
    return ends


def with_place(ends, marks, place):
    # Places that hang together bear the same mark, places that aren't there None. A place whose
    # ties lead twice to one mark closes a ring: then there are no marks with it.
    met = [marks[end] for end in ends[place] if marks[end] is not None]
    if place in ends[place] or len(set(met)) < len(met):
        return None
    wider = [place if mark in met else mark for mark in marks]
    wider[place] = place
    return wider


def least_cut(web, weights, kept):
    places = few_open(web, kept)
    ring = least_ring(cut_web(web, places))
    if ring is not None:
        return ("never", ring)
    ends = tie_ends(web)

    def widen(marks, place):
        return with_place(ends, marks, place)

    def ring_of(closing):
        return ring_at(cut_web(web, [place for place in places if place not in closing]), closing[0])

    return shown_cut("ring", weights, kept, places, widen, [None] * web[0], ring_of)
