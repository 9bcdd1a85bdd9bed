"""Rings apart, and with them a set that clears and isn't much greater."""

from ringfell.clears import clears_web
from ringfell.lifting import lifted_form
from ringfell.rings import is_ring, least_ring
from ringfell.rules import begin_rules, core_web, rule_step, steps_now
from ringfell.shorts import short_most
from ringfell.webs import is_set_of


def shrunk_state(state):
    # By lone and two alone: then each place has a loop or three ties, so a least ring is short.
    steps = [step for step in steps_now(state) if step[0] in ("lone", "two")]
    while steps:
        state = rule_step(state, steps[0])
        steps = [step for step in steps_now(state) if step[0] in ("lone", "two")]
    return state


def cut_state(state, places):
    left = [place for place in state[0] if place not in places]
    ties = [tie for tie in state[1] if tie[0] not in places and tie[1] not in places]
    return (tuple(left), tuple(ties), state[2])


def apart_rings(web):
    rings = []
    places = []
    state = shrunk_state(begin_rules(web))
    ring = least_ring(core_web(web, state))
    while ring is not None:
        rings.append(lifted_form(state[1], ring))
        places.extend(ring)
        state = shrunk_state(cut_state(state, ring))
        ring = least_ring(core_web(web, state))
    return (sorted(rings), tuple(sorted(places)))


def are_apart(web, rings):
    met = []
    for ring in rings:
        if not is_ring(web, ring):
            return False
        met.extend(ring)
    return len(set(met)) == len(met)


def apart_right(web, rings, places):
    if not are_apart(web, rings) or not is_set_of(web, places) or not clears_web(web, places):
        return False
    return len(places) <= len(rings) * short_most(web[0])
