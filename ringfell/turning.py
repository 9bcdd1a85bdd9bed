"""Arrows taken out or turned about so that no round is left."""

from ringfell.errors import NotClear
from ringfell.oneways import is_round, round_arrows, round_form
from ringfell.ranks import first_ranks, has_ranks, round_by
from ringfell.webs import is_rising


def without_arrows(web, arrows):
    return (web[0], tuple([arrow for arrow in web[1] if arrow not in arrows]))


def arrows_clear(web, arrows):
    return has_ranks(without_arrows(web, arrows))


def look_clearing(web, arrows):
    if not arrows_clear(web, arrows):
        raise NotClear("without these arrows a round is left")


def turned_about(web, arrows):
    turned = [(arrow[1], arrow[0]) if arrow in arrows else arrow for arrow in web[1]]
    return (web[0], tuple(sorted(set(turned))))


def order_without(web, arrows):
    look_clearing(web, arrows)
    return first_ranks(without_arrows(web, arrows))


def other_arrows(arrows, arrow):
    return [other for other in arrows if other != arrow]


def thinned_arrows(web, arrows):
    look_clearing(web, arrows)
    needed = list(arrows)
    for arrow in arrows:
        # What is needed once stays needed: with fewer arrows left, fewer can be spared.
        fewer = other_arrows(needed, arrow)
        if arrows_clear(web, fewer):
            needed = fewer
    return [(arrow, round_by(without_arrows(web, other_arrows(needed, arrow)), [arrow])) for arrow in needed]


def is_formed_round(web, places):
    return is_round(web, places) and round_form(places) == tuple(places)


def goes_by(arrows, places):
    return [arrow for arrow in round_arrows(places) if arrow in arrows]


def thinned_right(web, rows):
    arrows = [tuple(row[0]) for row in rows]
    if not is_rising(arrows) or not arrows_clear(web, arrows):
        return False
    for arrow, row in zip(arrows, rows):
        if not is_formed_round(web, row[1]) or goes_by(arrows, row[1]) != [arrow]:
            return False
    return True
