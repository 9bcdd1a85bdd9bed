"""Single rules of one-way webs: states, steps, logs, the core; cuts and rounds from there and back."""

from ringfell.errors import NoStep, NotClear
from ringfell.lifting import pushed_along
from ringfell.oneways import arrows_in, arrows_out, is_round, round_form
from ringfell.ranks import clears_oneway
from ringfell.rules import begin_rules, core_web, is_at, log_to_end, states_along
from ringfell.webs import reached_from


def begin_onerules(web):
    return begin_rules(web)


def place_words(state, place):
    # A state's arrows stand where a web's do, so it is asked for them as a web is.
    into = arrows_in(state, place)
    out = arrows_out(state, place)
    words = []
    if len(into) == 0:
        words.append("source")
    if len(out) == 0:
        words.append("sink")
    if place in out:
        words.append("loop")
    if len(into) == 1 and into[0] != place:
        words.append("in")
    if len(out) == 1 and out[0] != place:
        words.append("out")
    return words


def apart_steps(state):
    behind = {}
    for place in state[0]:
        behind[place] = arrows_out(state, place)
    steps = []
    for arrow in state[1]:
        # Its places are in one knot just where a way leads back.
        if arrow[0] not in reached_from(behind, arrow[1]):
            steps.append(("apart", arrow[0], arrow[1]))
    return steps


def onesteps_now(state):
    steps = apart_steps(state)
    for place in state[0]:
        steps.extend([(word, place) for word in place_words(state, place)])
    return sorted(steps)


def can_onestep(state, step):
    return step in onesteps_now(state)


def joined_arrows(arrows, place):
    # One arrow alone leads to the place, or from it: so these are those of the other side.
    joined = []
    for one in arrows:
        for other in arrows:
            if one[1] == place and other[0] == place:
                joined.append((one[0], other[1], one[2] + (place,) + other[2]))
    return joined


def shortest_arrows(arrows):
    best = {}
    for arrow in sorted(arrows, key=lambda row: (len(row[2]), row[2])):
        best.setdefault((arrow[0], arrow[1]), arrow)
    return sorted(best.values())


def onestep_done(state, step):
    if step[0] == "apart":
        kept = [arrow for arrow in state[1] if (arrow[0], arrow[1]) != (step[1], step[2])]
        return (state[0], tuple(kept), state[2])
    left = tuple([place for place in state[0] if place != step[1]])
    arrows = [arrow for arrow in state[1] if not is_at(arrow, step[1])]
    taken = state[2]
    if step[0] in ("in", "out"):
        arrows = shortest_arrows(arrows + joined_arrows(state[1], step[1]))
    if step[0] == "loop":
        taken = tuple(sorted(taken + (step[1],)))
    return (left, tuple(arrows), taken)


def onerule_step(state, step):
    if not can_onestep(state, step):
        raise NoStep(0)
    return onestep_done(state, step)


def onelog_states(web, log):
    return states_along(begin_onerules(web), log, can_onestep, onestep_done)


def run_onelog(web, log):
    return onelog_states(web, log)[-1]


def ruled_onelog(web):
    return log_to_end(begin_onerules(web), onesteps_now, onestep_done)


def onecore_web(web, log):
    return core_web(web, run_onelog(web, log))


def lift_cut(web, log, places):
    state = run_onelog(web, log)
    if not clears_oneway(core_web(web, state), places):
        raise NotClear("these places don't clear the core")
    return tuple(sorted(set(tuple(places) + state[2])))


def place_instead(state, step):
    if step[0] == "in":
        return list(arrows_in(state, step[1]))
    if step[0] == "out":
        return list(arrows_out(state, step[1]))
    return []


def push_cut(web, log, places):
    states = onelog_states(web, log)
    if not clears_oneway(web, places):
        raise NotClear("these places don't clear the web")
    return pushed_along(states, log, places, place_instead)


def lift_round(web, log, places):
    state = run_onelog(web, log)
    if not is_round(core_web(web, state), places):
        raise NotClear("this is no round of the core")
    ways = {}
    for arrow in state[1]:
        ways[(arrow[0], arrow[1])] = arrow[2]
    lifted = []
    for at, place in enumerate(places):
        lifted.extend(ways[(places[at - 1], place)])
        lifted.append(place)
    return round_form(tuple(lifted))
