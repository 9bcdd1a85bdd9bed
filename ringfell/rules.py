"""Single rules done one behind the other: states, steps, logs, and the core."""

from ringfell.errors import NoStep


def begin_rules(web):
    return (tuple(range(web[0])), tuple([(tie[0], tie[1], ()) for tie in web[1]]), ())


def is_at(tie, place):
    return tie[0] == place or tie[1] == place


def beside_ties(ties, place):
    return [tie for tie in ties if is_at(tie, place)]


def ties_between(ties, one, other):
    pair = (min(one, other), max(one, other))
    return [tie for tie in ties if (tie[0], tie[1]) == pair]


def place_word(ties, place):
    # What can be done with a place that is left: never more than one of the three.
    beside = beside_ties(ties, place)
    if any([tie[0] == tie[1] for tie in beside]):
        return "loop"
    if len(beside) <= 1:
        return "lone"
    if len(beside) == 2:
        return "two"
    return None


def full_pairs(ties):
    counts = {}
    for tie in ties:
        pair = (tie[0], tie[1])
        counts[pair] = counts.get(pair, 0) + 1
    return [pair for pair in counts if pair[0] < pair[1] and counts[pair] > 2]


def steps_now(state):
    words = [(place_word(state[1], place), place) for place in state[0]]
    steps = [step for step in words if step[0] is not None]
    return sorted(steps + [("many", pair[0], pair[1]) for pair in full_pairs(state[1])])


def can_do(state, step):
    if len(step) == 2:
        return step[1] in state[0] and step[0] == place_word(state[1], step[1])
    if len(step) == 3:
        return step[0] == "many" and (step[1], step[2]) in full_pairs(state[1])
    return False


def way_from(tie, place):
    # The places passed from this end of the tie to the other one.
    if tie[0] == place:
        return tie[2]
    return tuple(reversed(tie[2]))


def other_end(tie, place):
    if tie[0] == place:
        return tie[1]
    return tie[0]


def joined_tie(ties, place):
    pair = sorted(beside_ties(ties, place), key=lambda tie: other_end(tie, place))
    one = other_end(pair[0], place)
    other = other_end(pair[1], place)
    way = way_from(pair[0], one) + (place,) + way_from(pair[1], place)
    if one == other:
        way = min(way, tuple(reversed(way)))
    return (one, other, way)


def many_done(ties, one, other):
    full = ties_between(ties, one, other)
    return tuple(sorted([tie for tie in ties if tie not in full] + full[:2]))


def step_done(state, step):
    if step[0] == "many":
        return (state[0], many_done(state[1], step[1], step[2]), state[2])
    left = tuple([place for place in state[0] if place != step[1]])
    ties = [tie for tie in state[1] if not is_at(tie, step[1])]
    taken = state[2]
    if step[0] == "two":
        ties.append(joined_tie(state[1], step[1]))
    if step[0] == "loop":
        taken = tuple(sorted(taken + (step[1],)))
    return (left, tuple(sorted(ties)), taken)


def rule_step(state, step):
    if not can_do(state, step):
        raise NoStep(0)
    return step_done(state, step)


def states_along(state, log, lets, done):
    # The states ahead of the steps, each at its step's place, and the last one behind them all;
    # lets says whether a step can be done, done does it.
    states = [state]
    for at, step in enumerate(log):
        if not lets(states[at], step):
            raise NoStep(at)
        states.append(done(states[at], step))
    return states


def log_states(web, log):
    return states_along(begin_rules(web), log, can_do, step_done)


def run_log(web, log):
    return log_states(web, log)[-1]


def log_to_end(state, steps_of, done):
    log = []
    steps = steps_of(state)
    while steps:
        log.append(steps[0])
        state = done(state, steps[0])
        steps = steps_of(state)
    return log


def ruled_log(web):
    return log_to_end(begin_rules(web), steps_now, step_done)


def core_web(web, state):
    return (web[0], tuple([(tie[0], tie[1]) for tie in state[1]]))
