"""Sets that clear, and rings, from the core behind a log to the web, and back."""

from ringfell.clears import clears_web
from ringfell.errors import NoRing, NotClear
from ringfell.rings import is_ring, ring_form
from ringfell.rules import core_web, joined_tie, log_states, run_log, ties_between, way_from


def lift_places(web, log, places):
    state = run_log(web, log)
    if not clears_web(core_web(web, state), places):
        raise NotClear("these places don't clear the core")
    return tuple(sorted(set(tuple(places) + state[2])))


def lifted_form(ties, ring):
    lifted = []
    for at, place in enumerate(ring):
        onward = ring[(at + 1) % len(ring)]
        between = ties_between(ties, place, onward)
        # A ring of two goes there by their first tie, and comes back by the second.
        tie = between[at] if len(ring) == 2 else between[0]
        lifted.append(place)
        lifted.extend(way_from(tie, place))
    return ring_form(tuple(lifted))


def lift_ring(web, log, ring):
    state = run_log(web, log)
    if not is_ring(core_web(web, state), ring):
        raise NoRing("this is no ring of the core")
    return lifted_form(state[1], ring)


def pushed_along(states, log, places, instead):
    # Instead tells the places that are put in the place of the one that goes by a step.
    pushed = tuple(places)
    for at, step in enumerate(log):
        # By a step of two places none goes.
        if len(step) == 2 and step[1] in pushed:
            stay = [place for place in pushed if place != step[1]]
            pushed = tuple(sorted(set(stay + instead(states[at], step))))
    return pushed


def put_instead(state, step):
    if step[0] == "two":
        return [joined_tie(state[1], step[1])[0]]
    return []


def push_places(web, log, places):
    states = log_states(web, log)
    if not clears_web(web, places):
        raise NotClear("these places don't clear the web")
    return pushed_along(states, log, places, put_instead)
