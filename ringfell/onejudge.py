"""Judges trees of cases of one-way webs."""

from ringfell.casejudge import case_shows
from ringfell.oneways import is_round


def one_shows(web, weights, kept, tree):
    return case_shows("round", is_round, web, weights, (), kept, tree)
