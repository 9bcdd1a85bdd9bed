"""10.3 and 10.4: rules of one-way webs, what is lifted and pushed, and 0.2, 0.4 as far as they speak of them."""

import random
import unittest
from itertools import permutations

from ringfell.errors import NoStep, NotClear
from ringfell.onerules import (begin_onerules, lift_cut, lift_round, onecore_web, onerule_step, onesteps_now,
                               push_cut, ruled_onelog, run_onelog)
from tests.helpers import FAR, all_sets, drawn_set, soon
from tests.ways import (all_onestates, behind, circled, drawn_oneway, drawn_onelog, few_arrows, large_oneways, oneway,
                        plain_clearing, plain_onebegin, plain_onecan, plain_onecore, plain_onedone, plain_onesteps,
                        plain_round, plain_rounds, rotated, small_oneways, whole_oneway)

WORDS = ("source", "sink", "loop", "in", "out", "apart")
NO_STEPS = (("source",), ("apart",), ("in",), (), ("source", 0, 1), ("sink", 0, 1), ("loop", 0, 0), ("in", 0, 1),
            ("out", 1, 0), ("apart", 0), ("apart", 0, 1, 2), ("in", 0, 1, 2), ("", 0), ("", 0, 1), ("Source", 0),
            ("lone", 0), ("two", 0), ("many", 0, 1), ("ins", 0), ("in ", 0), ("aparts", 0, 1), ("part", 0, 1))


def drawn_cases(seed, count, most=5, arrows=14):
    """One-way webs, logs (broken off, too) and the states on the way."""
    rng = random.Random(seed)
    for web in few_arrows(seed, count, most, arrows):
        yield (web,) + drawn_onelog(rng, web)


def broader_cases(seed, count):
    """Webs of more places, with fourteen arrows or fewer."""
    rng = random.Random(seed)
    for k in range(count):
        many = rng.choice((8, 10, 14, 40))
        web = drawn_oneway(rng, many, rng.randrange(8, 15), k % 4 == 0)
        if k % 2:
            # Two rounds through some places, so that long ways come up.
            first = rng.sample(range(many), 7)
            second = rng.sample(range(many), 7)
            web = oneway(many, list(zip(first, first[1:] + first[:1])) + list(zip(second, second[1:] + second[:1])))
        yield (web,) + drawn_onelog(rng, web)


def plain_onefewest(web):
    return next(len(places) for places in all_sets(web[0]) if plain_clearing(web, places))


class Begin(unittest.TestCase):
    def test_begin_onerules(self):
        self.assertEqual(begin_onerules((0, ())), ((), (), ()))
        web = oneway(3, [(0, 0), (2, 0), (0, 2)])
        self.assertEqual(begin_onerules(web), ((0, 1, 2), ((0, 0, ()), (0, 2, ()), (2, 0, ())), ()))
        for web in small_oneways(1201, 60) + large_oneways(1202):
            state = begin_onerules(web)
            self.assertEqual(state, plain_onebegin(web))
            self.assertEqual([type(part) for part in state], [tuple] * 3)


class Steps(unittest.TestCase):
    def refused(self, state, step):
        with self.assertRaises(NoStep) as caught:
            onerule_step(state, step)
        self.assertEqual(caught.exception.at, 0)

    def test_every_state_that_some_log_leads_to(self):
        met = 0
        for web in few_arrows(1203, 160, 4, 7):
            for state in all_onestates(web):
                met += 1
                steps = plain_onesteps(state)
                told = onesteps_now(state)
                self.assertIs(type(told), list)
                self.assertEqual(told, steps)
                for step in steps:
                    self.assertEqual(onerule_step(state, step), plain_onedone(state, step))
        self.assertGreater(met, 1000)

    def test_drawn_logs_step_by_step(self):
        words = []
        for web, log, states in list(drawn_cases(1204, 120, 6)) + list(broader_cases(1205, 60)):
            for state in states:
                steps = plain_onesteps(state)
                self.assertEqual(onesteps_now(state), steps)
                for step in steps:
                    told = onerule_step(state, step)
                    self.assertEqual(told, plain_onedone(state, step))
                    self.assertEqual([type(part) for part in told], [tuple] * 3)
            words += [step[0] for step in log]
        for word in WORDS:
            self.assertGreater(words.count(word), 20)

    def test_named_states(self):
        web = oneway(6, [(0, 1), (1, 2), (2, 1), (2, 3), (3, 3), (4, 3)])
        state = begin_onerules(web)
        self.assertEqual(onesteps_now(state),
                         [("apart", 0, 1), ("apart", 2, 3), ("apart", 4, 3), ("in", 2), ("loop", 3), ("out", 0),
                          ("out", 1), ("out", 4), ("sink", 5), ("source", 0), ("source", 4), ("source", 5)])
        self.assertEqual(onerule_step(state, ("source", 0)),
                         ((1, 2, 3, 4, 5), ((1, 2, ()), (2, 1, ()), (2, 3, ()), (3, 3, ()), (4, 3, ())), ()))
        self.assertEqual(onerule_step(state, ("out", 0)), onerule_step(state, ("source", 0)))
        self.assertEqual(onerule_step(state, ("sink", 5))[1], state[1])
        self.assertEqual(onerule_step(state, ("sink", 5))[0], (0, 1, 2, 3, 4))
        self.assertEqual(onerule_step(state, ("loop", 3)),
                         ((0, 1, 2, 4, 5), ((0, 1, ()), (1, 2, ()), (2, 1, ())), (3,)))
        self.assertEqual(onerule_step(state, ("apart", 2, 3)),
                         ((0, 1, 2, 3, 4, 5), ((0, 1, ()), (1, 2, ()), (2, 1, ()), (3, 3, ()), (4, 3, ())), ()))
        self.assertEqual(onerule_step(state, ("in", 2)),
                         ((0, 1, 3, 4, 5), ((0, 1, ()), (1, 1, (2,)), (1, 3, (2,)), (3, 3, ()), (4, 3, ())), ()))
        self.assertEqual(onerule_step(state, ("out", 1)),
                         ((0, 2, 3, 4, 5), ((0, 2, (1,)), (2, 2, (1,)), (2, 3, ()), (3, 3, ()), (4, 3, ())), ()))

    def test_loops_stand_against_in_and_out(self):
        state = begin_onerules(oneway(2, [(0, 0)]))
        self.assertEqual(onesteps_now(state), [("loop", 0), ("sink", 1), ("source", 1)])
        for word in ("source", "sink", "in", "out"):
            self.refused(state, (word, 0))
        state = begin_onerules(oneway(3, [(0, 1), (1, 1), (1, 2)]))
        for word in ("in", "out", "source", "sink"):
            self.refused(state, (word, 1))
        self.refused(state, ("apart", 1, 1))

    def test_the_shorter_way_stays(self):
        # From 0 to 1 by 2, and by 3 and 4; and straight.
        web = oneway(5, [(0, 2), (2, 1), (0, 3), (3, 4), (4, 1), (1, 0)])
        state = run_onelog(web, [("in", 3), ("in", 4)])
        self.assertEqual(state[1], ((0, 1, (3, 4)), (0, 2, ()), (1, 0, ()), (2, 1, ())))
        self.assertEqual(onerule_step(state, ("in", 2))[1], ((0, 1, (2,)), (1, 0, ())))
        state = run_onelog(web, [("out", 2), ("out", 4)])
        self.assertEqual(onerule_step(state, ("out", 3))[1], ((0, 1, (2,)), (1, 0, ())))
        straight = oneway(3, [(0, 1), (0, 2), (2, 1)])
        self.assertEqual(run_onelog(straight, [("in", 2)])[1], ((0, 1, ()),))
        self.assertEqual(run_onelog(straight, [("out", 2)])[1], ((0, 1, ()),))

    def test_of_alike_long_ways_the_lesser(self):
        web = oneway(4, [(0, 2), (2, 1), (0, 3), (3, 1)])
        for log in ([("in", 3), ("in", 2)], [("in", 2), ("in", 3)], [("out", 3), ("in", 2)], [("out", 2), ("out", 3)]):
            self.assertEqual(run_onelog(web, log)[1], ((0, 1, (2,)),))
        long = oneway(6, [(0, 5), (5, 2), (2, 1), (0, 3), (3, 4), (4, 1)])
        for log in ([("in", 5), ("in", 2), ("in", 3), ("in", 4)], [("out", 4), ("out", 3), ("out", 2), ("out", 5)]):
            self.assertEqual(run_onelog(long, log)[1], ((0, 1, (3, 4)),))

    def test_loops_that_come(self):
        web = oneway(3, [(0, 1), (1, 0), (1, 2), (2, 1)])
        self.assertEqual(onerule_step(begin_onerules(web), ("in", 0))[1], ((1, 1, (0,)), (1, 2, ()), (2, 1, ())))
        self.assertEqual(run_onelog(web, [("in", 0), ("out", 2)])[1], ((1, 1, (0,)),))
        self.assertEqual(run_onelog(web, [("in", 2), ("out", 0)])[1], ((1, 1, (0,)),))
        loops = oneway(2, [(1, 1), (0, 1), (1, 0)])
        self.assertEqual(run_onelog(loops, [("in", 0)])[1], ((1, 1, ()),))
        self.assertEqual(run_onelog(circled(4), [("in", 1), ("out", 3), ("in", 2)])[1], ((0, 0, (1, 2, 3)),))

    def test_steps_that_can_not_be(self):
        rng = random.Random(1206)
        numbers = [-FAR, -2, -1, 0, 1, 2, 3, 4, 5, 6, 40, FAR]
        for web, log, states in drawn_cases(1207, 40):
            for state in (states[0], states[-1], rng.choice(states)):
                for step in NO_STEPS:
                    self.refused(state, step)
                steps = [(word, place) for word in WORDS for place in numbers]
                steps += [(word, a, b) for word in WORDS for a in numbers for b in numbers]
                for step in steps:
                    if not plain_onecan(state, step):
                        self.refused(state, step)
                for step in plain_onesteps(state):
                    self.refused(state, step + (0,))
                    self.refused(state, step[:-1])
                    self.refused(state, (step[0] + "s",) + step[1:])
                    self.refused(state, (step[0].upper(),) + step[1:])
                    self.refused(state, step[:-1] + (step[-1] + FAR,))

    def test_places_that_are_gone(self):
        state = run_onelog(oneway(4, [(0, 1), (1, 0), (2, 2)]), [("loop", 2), ("in", 1)])
        self.assertEqual(state, ((0, 3), ((0, 0, (1,)),), (2,)))
        for place in (1, 2):
            for word in WORDS[:5]:
                self.refused(state, (word, place))
            self.refused(state, ("apart", 0, place))
            self.refused(state, ("apart", place, 0))

    def test_ways_are_ways_of_the_web(self):
        for web, log, states in list(drawn_cases(1208, 100, 6)) + list(broader_cases(1209, 80)):
            for a, b, way in run_onelog(web, log)[1]:
                row = (a,) + way + (b,)
                self.assertTrue(all(pair in web[1] for pair in zip(row, row[1:])))
                self.assertEqual(len(set(row[:-1])), len(row) - 1)
                self.assertFalse(set(way) & set(states[-1][0] + states[-1][2]))

    def test_taken_rises(self):
        web = oneway(3, [(0, 0), (1, 1), (2, 2)])
        self.assertEqual(run_onelog(web, [("loop", 2), ("loop", 0), ("loop", 1)]), ((), (), (0, 1, 2)))

    def test_told_lists_are_the_askers_own(self):
        state = begin_onerules(circled(3))
        told = onesteps_now(state)
        told.append(None)
        told[0] = None
        self.assertEqual(onesteps_now(state), plain_onesteps(state))


class Logs(unittest.TestCase):
    def refused(self, at, web, log):
        for row in (list(log), tuple(log)):
            for call in (run_onelog, onecore_web):
                with self.assertRaises(NoStep) as caught:
                    call(web, row)
                self.assertEqual(caught.exception.at, at)

    def test_logs_as_lists_and_tuples(self):
        for web, log, states in list(drawn_cases(1211, 150, 6)) + list(broader_cases(1212, 60)):
            kept = list(log)
            self.assertEqual(run_onelog(web, log), states[-1])
            self.assertEqual(log, kept)
            self.assertEqual(run_onelog(web, tuple(log)), states[-1])
            core = onecore_web(web, log)
            self.assertEqual(core, plain_onecore(web, states[-1]))
            self.assertEqual(onecore_web(web, tuple(log)), core)
            self.assertEqual(core[1], tuple(sorted(set(core[1]))))
        self.assertEqual(run_onelog(circled(3), []), begin_onerules(circled(3)))
        self.assertEqual(run_onelog((0, ()), ()), ((), (), ()))
        self.assertEqual(onecore_web((0, ()), ()), (0, ()))
        self.assertEqual(onecore_web(circled(3), ()), circled(3))

    def test_the_first_step_that_can_not_be(self):
        rng = random.Random(1213)
        for web, log, states in drawn_cases(1214, 60, 6):
            for at in range(len(log) + 1):
                wrong = list(NO_STEPS) + [("source", -1), ("in", FAR), ("apart", -FAR, 0), ("loop", 6), ("sink", 40)]
                wrong += [step for step in log if not plain_onecan(states[at], step)]
                for step in rng.sample(wrong, 3):
                    self.refused(at, web, log[:at] + [step] + log[at:])
                    self.refused(at, web, log[:at] + [step, step, ("in",)])
                    self.refused(at, web, log[:at] + [step])

    def test_the_same_step_again(self):
        self.refused(1, (2, ()), [("source", 0), ("source", 0)])
        self.refused(1, (1, ((0, 0),)), [("loop", 0), ("loop", 0)])
        self.refused(1, oneway(2, [(0, 1)]), [("apart", 0, 1), ("apart", 0, 1)])
        self.refused(0, circled(4), [("source", 0)])
        self.refused(40, (40, ()), [("sink", place) for place in range(40)] + [("sink", 0)] * 9)

    def test_each_step_leaves_fewer(self):
        for web, log, states in broader_cases(1215, 60):
            for one, other in zip(states, states[1:]):
                self.assertLess(len(other[0]) + len(other[1]), len(one[0]) + len(one[1]))


class Ruled(unittest.TestCase):
    def held(self, web):
        log = ruled_onelog(web)
        self.assertIs(type(log), list)
        state = plain_onebegin(web)
        for step in log:
            self.assertIs(type(step), tuple)
            self.assertTrue(plain_onecan(state, step))
            state = plain_onedone(state, step)
        self.assertEqual(plain_onesteps(state), [])
        self.assertEqual(run_onelog(web, log), state)
        self.assertEqual(onesteps_now(state), [])
        self.assertEqual(ruled_onelog(web), log)
        return state

    def test_small_webs(self):
        for web in small_oneways(1221, 250, 6):
            self.held(web)

    def test_broader_webs(self):
        for web, log, states in broader_cases(1222, 60):
            with soon():
                self.held(web)
        for web in large_oneways(1223)[:5]:
            with soon():
                self.held(web)

    def test_named_webs(self):
        self.assertEqual(self.held((0, ())), ((), (), ()))
        self.assertEqual(self.held((40, ())), ((), (), ()))
        for many in (2, 3, 14):
            state = self.held(circled(many))
            self.assertEqual((state[0], state[1], len(state[2])), ((), (), 1))
        self.assertEqual(ruled_onelog(whole_oneway(4)), [])
        self.assertEqual(self.held(oneway(14, [(place, place + 1) for place in range(13)])), ((), (), ()))

    def test_told_lists_are_the_askers_own(self):
        told = ruled_onelog(circled(3))
        kept = list(told)
        told.append(None)
        told[0] = None
        self.assertEqual(ruled_onelog(circled(3)), kept)


class Lifted(unittest.TestCase):
    def test_cuts_of_all_sets(self):
        for web, log, states in drawn_cases(1231, 150):
            core = plain_onecore(web, states[-1])
            for places in all_sets(web[0]):
                self.held_cut(web, log, states, core, places)

    def held_cut(self, web, log, states, core, places):
        if not plain_clearing(core, places):
            with self.assertRaises(NotClear):
                lift_cut(web, log, places)
            return
        told = lift_cut(web, log, places)
        self.assertIs(type(told), tuple)
        self.assertEqual(told, tuple(sorted(set(places) | set(states[-1][2]))))
        self.assertTrue(plain_clearing(web, told))
        self.assertEqual(lift_cut(web, tuple(log), places), told)

    def test_cuts_of_broader_webs(self):
        rng = random.Random(1232)
        for web, log, states in broader_cases(1233, 80):
            for size in (0, 1, 2, web[0] // 2, web[0]):
                self.held_cut(web, log, states, plain_onecore(web, states[-1]), drawn_set(rng, web[0], size))

    def held_round(self, web, log, states, row):
        told = lift_round(web, log, row)
        self.assertIs(type(told), tuple)
        self.assertTrue(plain_round(web, told))
        self.assertEqual(told[0], min(told))
        ways = {(a, b): way for a, b, way in states[-1][1]}
        wanted = ()
        for at, place in enumerate(row):
            wanted += (place,) + ways[(place, row[(at + 1) % len(row)])]
        self.assertIn(told, rotated(wanted))
        self.assertEqual(lift_round(web, tuple(log), row), told)

    def test_rounds_of_all_rows(self):
        met = 0
        for web, log, states in drawn_cases(1234, 120):
            core = plain_onecore(web, states[-1])
            for size in range(web[0] + 1):
                for row in permutations(range(web[0]), size):
                    if plain_round(core, row):
                        met += 1
                        self.held_round(web, log, states, row)
                    else:
                        with self.assertRaises(NotClear):
                            lift_round(web, log, row)
        self.assertGreater(met, 100)

    def test_rounds_of_broader_webs(self):
        met = 0
        for web, log, states in broader_cases(1235, 60):
            for state, at in ((state, at) for at, state in enumerate(states)):
                used = sorted({place for arrow in state[1] for place in arrow[:2]})
                if len(used) <= 5:
                    names = {place: k for k, place in enumerate(used)}
                    small = oneway(len(used), [(names[a], names[b]) for a, b, way in state[1]])
                    for row in plain_rounds(small):
                        met += 1
                        for turn in rotated([used[k] for k in row]):
                            self.held_round(web, log[:at], states[:at + 1], turn)
        self.assertGreater(met, 100)

    def test_named_rounds(self):
        log = [("in", 1), ("out", 3), ("in", 2)]
        self.assertEqual(lift_round(circled(4), log, (0,)), (0, 1, 2, 3))
        self.assertEqual(lift_round(circled(4), log[:2], (2, 0)), (0, 1, 2, 3))
        self.assertEqual(lift_round(circled(4), [], (3, 0, 1, 2)), (0, 1, 2, 3))
        about = oneway(4, [(0, 3), (3, 2), (2, 1), (1, 0)])
        self.assertEqual(lift_round(about, [("in", 2), ("in", 1)], (3, 0)), (0, 3, 2, 1))

    def test_no_round_of_the_core(self):
        web = behind(circled(4), (1, ((0, 0),)))
        for row in ((), (0,), (0, 1, 2), (4, 4), (-1,), (5,), (FAR,), (-FAR,), (0, 1, 2, FAR), (0, 1, 2, -1),
                    (3, 2, 1, 0), (0, 1, 2, 3, 4), (0, 1, 2, 3, 0), (0, 2, 1, 3), (0, 1, 2, 3, 0, 1, 2, 3)):
            with self.assertRaises(NotClear):
                lift_round(web, [], row)
        for row in ((4,), (0, 1, 2, 3), (0,), (1, 2)):
            with self.assertRaises(NotClear):
                lift_round(web, [("loop", 4), ("in", 0)], row)


class Pushed(unittest.TestCase):
    def plain(self, states, log, places):
        """10.4, step by step."""
        pushed = set(places)
        for state, step in zip(states, log):
            if step[0] != "apart" and step[1] in pushed:
                pushed.discard(step[1])
                if step[0] == "in":
                    pushed |= {a for a, b, way in state[1] if b == step[1]}
                if step[0] == "out":
                    pushed |= {b for a, b, way in state[1] if a == step[1]}
        return tuple(sorted(pushed))

    def held(self, web, log, states, places):
        if not plain_clearing(web, places):
            with self.assertRaises(NotClear):
                push_cut(web, log, places)
            return
        told = push_cut(web, log, places)
        self.assertIs(type(told), tuple)
        self.assertEqual(told, self.plain(states, log, places))
        self.assertTrue(plain_clearing(plain_onecore(web, states[-1]), told))
        self.assertLessEqual(len(told), len(places) - len(states[-1][2]))
        self.assertEqual(push_cut(web, tuple(log), places), told)

    def test_all_sets_of_small_webs(self):
        for web, log, states in drawn_cases(1241, 200):
            for places in all_sets(web[0]):
                self.held(web, log, states, places)

    def test_broader_webs(self):
        rng = random.Random(1242)
        for web, log, states in broader_cases(1243, 100):
            for size in (1, 2, 4, web[0] // 2, web[0] - 1, web[0]):
                self.held(web, log, states, drawn_set(rng, web[0], size))

    def test_named_sets(self):
        self.assertEqual(push_cut(circled(4), [("in", 2)], (2,)), (1,))
        self.assertEqual(push_cut(circled(4), [("out", 2)], (2,)), (3,))
        self.assertEqual(push_cut(circled(4), [("out", 2)], (2, 3)), (3,))
        self.assertEqual(push_cut(circled(4), [("out", 2)], (1,)), (1,))
        self.assertEqual(push_cut(circled(4), [("in", 0), ("in", 3)], (0,)), (2,))
        web = oneway(5, [(0, 1), (1, 1), (1, 2), (3, 4), (4, 3)])
        self.assertEqual(push_cut(web, [("source", 0), ("loop", 1), ("sink", 2)], (0, 1, 2, 3)), (3,))
        self.assertEqual(push_cut(web, [("apart", 0, 1), ("apart", 1, 2)], (0, 1, 3)), (0, 1, 3))

    def test_the_fewest(self):
        for web, log, states in drawn_cases(1244, 200, 6):
            core = plain_onecore(web, states[-1])
            fewest = plain_onefewest(core)
            self.assertEqual(plain_onefewest(web), len(states[-1][2]) + fewest)
            places = next(row for row in all_sets(web[0]) if len(row) == fewest and plain_clearing(core, row))
            self.assertEqual(len(lift_cut(web, log, places)), plain_onefewest(web))

    def test_there_and_back_by_the_program_s_own_log(self):
        for web in few_arrows(1245, 80, 6):
            log = ruled_onelog(web)
            fewest = next(row for row in all_sets(web[0]) if plain_clearing(web, row))
            self.assertEqual(len(lift_cut(web, log, push_cut(web, log, fewest))), len(fewest))


class Refused(unittest.TestCase):
    def refused(self, at, call, *handed):
        with self.assertRaises(NoStep) as caught:
            call(*handed)
        self.assertEqual(caught.exception.at, at)

    def test_no_step_goes_ahead_of_not_clear(self):
        web = behind(circled(3), (1, ((0, 0),)))
        for log, at in (([("source", 0)], 0), ([("loop", 3), ("loop", 3)], 1), ([("loop", 3), ("in",)], 1),
                        ([("in", 0), ("out", 1), ("apart", 2, 3), ("in", 0)], 2), ([("loop", FAR)], 0)):
            for row in (log, tuple(log)):
                for places in ((), (0, 1, 2, 3), (0, 3)):
                    self.refused(at, lift_cut, web, row, places)
                    self.refused(at, push_cut, web, row, places)
                for places in ((), (0,), (FAR, -1), (3,), (0, 1, 2)):
                    self.refused(at, lift_round, web, row, places)

    def test_what_is_handed_in_stays(self):
        web = behind(circled(3), (1, ((0, 0),)))
        log = [("loop", 3), ("in", 0)]
        lift_cut(web, log, (1,))
        lift_round(web, log, (1, 2))
        push_cut(web, log, (0, 3))
        onecore_web(web, log)
        self.assertEqual(log, [("loop", 3), ("in", 0)])

    def test_arguments_by_their_names(self):
        web = behind(circled(3), (1, ((0, 0),)))
        log = [("loop", 3)]
        state = begin_onerules(web=web)
        self.assertEqual(onesteps_now(state=state), plain_onesteps(state))
        self.assertEqual(onerule_step(step=("loop", 3), state=state), run_onelog(log=log, web=web))
        self.assertEqual(onecore_web(log=log, web=web), (4, circled(3)[1]))
        self.assertEqual(run_onelog(web, ruled_onelog(web=web))[0], ())
        self.assertEqual(lift_cut(places=(1,), log=log, web=web), (1, 3))
        self.assertEqual(lift_round(places=(2, 0, 1), log=log, web=web), (0, 1, 2))
        self.assertEqual(push_cut(places=(1, 3), log=log, web=web), (1,))


if __name__ == "__main__":
    unittest.main()
