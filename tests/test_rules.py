"""4.1 to 4.3: states, steps and logs, and 0.2 as far as it speaks of them."""

import random
import unittest

from ringfell.errors import NoStep
from ringfell.rules import begin_rules, core_web, rule_step, ruled_log, run_log, steps_now
from tests.helpers import (FAR, bare, circle, drawn_log, joined, large_webs, looped, plain_begin, plain_can,
                           plain_core, plain_done, plain_steps, plain_web, renamed, small_webs, soon, theta,
                           three_tied, times, whole_web)

NO_STEPS = ((), ("lone",), ("two",), ("loop",), ("many",), ("lone", 0, 1), ("two", 0, 1), ("loop", 0, 1),
            ("many", 0), ("many", 0, 1, 2), ("lone", 0, 0), ("two", 1, 1), ("", 0), ("", 0, 1), ("Lone", 0),
            ("lone ", 0), ("one", 0), ("three", 0), ("loops", 0), ("manyy", 0, 1), ("lift", 0, 1), ("loop", 0, 1, 2))


class Begin(unittest.TestCase):
    def test_begin_rules(self):
        self.assertEqual(begin_rules(bare(0)), ((), (), ()))
        web = (3, ((0, 0), (0, 2), (0, 2)))
        self.assertEqual(begin_rules(web), ((0, 1, 2), ((0, 0, ()), (0, 2, ()), (0, 2, ())), ()))
        for web in small_webs(91, 60) + large_webs(91):
            state = begin_rules(web)
            self.assertEqual(state, plain_begin(web))
            self.assertEqual([type(part) for part in state], [tuple] * 3)


class Steps(unittest.TestCase):
    def refused(self, state, step):
        with self.assertRaises(NoStep) as caught:
            rule_step(state, step)
        self.assertEqual(caught.exception.at, 0)

    def test_named_states(self):
        web = plain_web(6, [(0, 1), (1, 2), (2, 2), (3, 4), (3, 4), (3, 4), (3, 5)])
        state = begin_rules(web)
        self.assertEqual(steps_now(state), [("lone", 0), ("lone", 5), ("loop", 2), ("many", 3, 4), ("two", 1)])
        self.assertEqual(rule_step(state, ("lone", 0)),
                         ((1, 2, 3, 4, 5), ((1, 2, ()), (2, 2, ()), (3, 4, ()), (3, 4, ()), (3, 4, ()), (3, 5, ())), ()))
        self.assertEqual(rule_step(state, ("loop", 2)),
                         ((0, 1, 3, 4, 5), ((0, 1, ()), (3, 4, ()), (3, 4, ()), (3, 4, ()), (3, 5, ())), (2,)))
        self.assertEqual(rule_step(state, ("many", 3, 4)),
                         ((0, 1, 2, 3, 4, 5), ((0, 1, ()), (1, 2, ()), (2, 2, ()), (3, 4, ()), (3, 4, ()), (3, 5, ())), ()))
        self.assertEqual(rule_step(state, ("two", 1)),
                         ((0, 2, 3, 4, 5), ((0, 2, (1,)), (2, 2, ()), (3, 4, ()), (3, 4, ()), (3, 4, ()), (3, 5, ())), ()))

    def test_ways_and_the_lesser_direction(self):
        state = begin_rules(circle(4))
        state = rule_step(state, ("two", 0))
        self.assertEqual(state, ((1, 2, 3), ((1, 2, ()), (1, 3, (0,)), (2, 3, ())), ()))
        state = rule_step(state, ("two", 1))
        self.assertEqual(state, ((2, 3), ((2, 3, ()), (2, 3, (1, 0))), ()))
        self.assertEqual(steps_now(state), [("two", 2), ("two", 3)])
        self.assertEqual(rule_step(state, ("two", 3)), ((2,), ((2, 2, (1, 0, 3)),), ()))
        self.assertEqual(rule_step(state, ("two", 2)), ((3,), ((3, 3, (0, 1, 2)),), ()))
        self.assertEqual(steps_now(((2,), ((2, 2, (1, 0, 3)),), ())), [("loop", 2)])
        self.assertEqual(rule_step(((2,), ((2, 2, (1, 0, 3)),), ()), ("loop", 2)), ((), (), (2,)))

    def test_many_keeps_the_first_two(self):
        web = plain_web(6, [(0, 1), (0, 2), (2, 1), (0, 3), (3, 1), (0, 4), (4, 5), (5, 1)])
        state = run_log(web, [("two", 3), ("two", 2), ("two", 5), ("two", 4)])
        self.assertEqual(state, ((0, 1), ((0, 1, ()), (0, 1, (2,)), (0, 1, (3,)), (0, 1, (4, 5))), ()))
        self.assertEqual(steps_now(state), [("many", 0, 1)])
        self.assertEqual(rule_step(state, ("many", 0, 1)), ((0, 1), ((0, 1, ()), (0, 1, (2,))), ()))
        self.refused(state, ("many", 1, 0))

    def test_a_loop_alone_is_neither_lone_nor_two(self):
        state = begin_rules(joined(looped(), bare(1)))
        self.assertEqual(steps_now(state), [("lone", 1), ("loop", 0)])
        self.refused(state, ("lone", 0))
        self.refused(state, ("two", 0))
        self.refused(state, ("loop", 1))

    def test_many_loops_of_one_place_are_no_many(self):
        state = begin_rules(plain_web(1, [(0, 0)] * 4))
        self.assertEqual(steps_now(state), [("loop", 0)])
        self.refused(state, ("many", 0, 0))

    def test_drawn_logs_step_by_step(self):
        rng = random.Random(92)
        for web in small_webs(92, 150, 7):
            log, states = drawn_log(rng, web)
            for at, state in enumerate(states):
                steps = plain_steps(state)
                told = steps_now(state)
                self.assertIs(type(told), list)
                self.assertEqual(told, steps)
                for step in steps:
                    self.assertEqual(rule_step(state, step), plain_done(state, step))

    def test_steps_that_can_not_be_done(self):
        rng = random.Random(93)
        numbers = [-FAR, -2, -1, 0, 1, 2, 3, 4, 5, 6, FAR]
        for web in small_webs(93, 40, 5):
            log, states = drawn_log(rng, web)
            for state in (states[0], states[-1], rng.choice(states)):
                for step in NO_STEPS:
                    self.assertFalse(plain_can(state, step))
                    self.refused(state, step)
                steps = [(word, place) for word in ("lone", "two", "loop", "many") for place in numbers]
                steps += [(word, a, b) for word in ("many", "two", "loop") for a in numbers for b in numbers]
                for step in steps:
                    if not plain_can(state, step):
                        self.refused(state, step)
                for step in plain_steps(state):
                    self.refused(state, step + (0,))
                    self.refused(state, step[:-1])
                    self.refused(state, (step[0] + "s",) + step[1:])

    def test_ways_are_ways_of_the_web(self):
        rng = random.Random(94)
        for web in small_webs(94, 150, 8) + large_webs(94):
            log, states = drawn_log(rng, web)
            state = run_log(web, log)
            self.assertEqual(state, states[-1])
            passed = []
            for a, b, way in state[1]:
                row = (a,) + way + (b,)
                self.assertTrue(all(times(web, one, other) for one, other in zip(row, row[1:])))
                self.assertTrue(a < b or way <= way[::-1])
                passed += way
            self.assertEqual(len(set(passed)), len(passed))
            self.assertFalse(set(passed) & set(state[0] + state[2]))

    def test_taken_rises(self):
        web = joined(looped(), looped(), looped())
        state = run_log(web, [("loop", 2), ("loop", 0), ("loop", 1)])
        self.assertEqual(state, ((), (), (0, 1, 2)))

    def test_told_lists_are_the_askers_own(self):
        state = begin_rules(circle(3))
        told = steps_now(state)
        told.append(("lone", 7))
        told[0] = None
        self.assertEqual(steps_now(state), [("two", 0), ("two", 1), ("two", 2)])


class Logs(unittest.TestCase):
    def refused(self, at, web, log):
        for row in (list(log), tuple(log)):
            with self.assertRaises(NoStep) as caught:
                run_log(web, row)
            self.assertEqual(caught.exception.at, at)

    def test_logs_as_lists_and_tuples(self):
        rng = random.Random(95)
        for web in small_webs(95, 150, 7) + large_webs(95)[-6:]:
            log, states = drawn_log(rng, web)
            kept = list(log)
            self.assertEqual(run_log(web, log), states[-1])
            self.assertEqual(log, kept)
            self.assertEqual(run_log(web, tuple(log)), states[-1])
        self.assertEqual(run_log(circle(3), []), begin_rules(circle(3)))
        self.assertEqual(run_log(bare(0), ()), ((), (), ()))

    def test_the_first_step_that_can_not_be_done(self):
        rng = random.Random(96)
        for web in small_webs(96, 80, 6):
            log, states = drawn_log(rng, web)
            for at in range(len(log) + 1):
                wrong = [step for step in NO_STEPS + (("lone", -1), ("two", FAR), ("many", 1, 0), ("loop", 6))]
                wrong += [step for step in log if not plain_can(states[at], step)]
                for step in rng.sample(wrong, 3):
                    self.refused(at, web, log[:at] + [step] + log[at:])
                    self.refused(at, web, log[:at] + [step, step, ("lone",)])

    def test_the_same_step_again(self):
        self.refused(1, bare(2), [("lone", 0), ("lone", 0)])
        self.refused(1, looped(), [("loop", 0), ("loop", 0)])
        self.refused(1, plain_web(2, [(0, 1)] * 3), [("many", 0, 1), ("many", 0, 1)])
        self.refused(0, circle(4), [("lone", 0)])
        self.refused(40, bare(40), [("lone", k) for k in range(40)] + [("lone", 0)] * 21)

    def test_each_step_leaves_fewer(self):
        rng = random.Random(97)
        for web in large_webs(97):
            log, states = drawn_log(rng, web)
            for one, other in zip(states, states[1:]):
                self.assertLess(len(other[0]) + len(other[1]), len(one[0]) + len(one[1]))


class Ruled(unittest.TestCase):
    def held(self, web):
        log = ruled_log(web)
        self.assertIs(type(log), list)
        state = plain_begin(web)
        for step in log:
            self.assertIs(type(step), tuple)
            self.assertTrue(plain_can(state, step))
            state = plain_done(state, step)
        self.assertEqual(plain_steps(state), [])
        self.assertEqual(run_log(web, log), state)
        self.assertEqual(steps_now(state), [])
        core = core_web(web, state)
        self.assertEqual(core, plain_core(web, state))
        for place in state[0]:
            self.assertGreaterEqual(sum((a == place) + (b == place) for a, b in core[1]), 3)
            self.assertEqual(times(core, place, place), 0)
            self.assertTrue(all(times(core, place, other) <= 2 for other in range(web[0])))
        self.assertEqual(ruled_log(web), log)

    def test_small_webs(self):
        for web in small_webs(98, 300, 8):
            self.held(web)

    def test_large_webs(self):
        for web in large_webs(99):
            with soon():
                self.held(web)

    def test_webs_with_nothing_to_do(self):
        rng = random.Random(100)
        for web, length in three_tied():
            self.assertEqual(ruled_log(renamed(rng, web)), [])
        self.assertEqual(ruled_log(bare(0)), [])

    def test_webs_ruled_to_nothing(self):
        for web in (bare(40), circle(40), looped(), theta(2)):
            log = ruled_log(web)
            self.assertEqual(run_log(web, log)[0], ())

    def test_core_web(self):
        state = run_log(circle(4), [("two", 0), ("two", 1)])
        self.assertEqual(core_web(circle(4), state), (4, ((2, 3), (2, 3))))
        self.assertEqual(core_web(whole_web(4), begin_rules(whole_web(4))), whole_web(4))
        rng = random.Random(101)
        for web in small_webs(101, 80, 8) + large_webs(101)[-6:]:
            log, states = drawn_log(rng, web)
            for state in states:
                core = core_web(web, state)
                self.assertEqual(core, plain_core(web, state))
                self.assertEqual(core[1], tuple(sorted(core[1])))

    def test_told_lists_are_the_askers_own(self):
        told = ruled_log(circle(4))
        kept = list(told)
        told.append(("lone", 7))
        told[0] = None
        self.assertEqual(ruled_log(circle(4)), kept)


class Named(unittest.TestCase):
    def test_arguments_by_their_names(self):
        web = looped()
        self.assertEqual(begin_rules(web=web), ((0,), ((0, 0, ()),), ()))
        self.assertEqual(steps_now(state=begin_rules(web)), [("loop", 0)])
        self.assertEqual(rule_step(step=("loop", 0), state=begin_rules(web)), ((), (), (0,)))
        self.assertEqual(run_log(log=[("loop", 0)], web=web), ((), (), (0,)))
        self.assertEqual(ruled_log(web=web), [("loop", 0)])
        self.assertEqual(core_web(state=((), (), (0,)), web=web), bare(1))


if __name__ == "__main__":
    unittest.main()
