"""4.4 and 4.5: back from the core, and 0.2 as far as it speaks of it."""

import random
import unittest
from itertools import permutations

from ringfell.errors import NoRing, NoStep, NotClear
from ringfell.lifting import lift_places, lift_ring, push_places
from ringfell.rules import ruled_log
from tests.helpers import (FAR, all_sets, bare, circle, drawn_log, drawn_plain, drawn_set, drawn_web, joined, looped,
                           plain_beside, plain_clears, plain_core, plain_fewest, plain_form, plain_ring, plain_rings,
                           plain_web, small_webs, theta, turned, whole_web)


def plain_lifted(state, ring):
    """4.4: the places passed between each two neighbours put in between."""
    lifted = []
    for at, place in enumerate(ring):
        onward = ring[(at + 1) % len(ring)]
        ways = [way for a, b, way in state[1] if (a, b) == (min(place, onward), max(place, onward))]
        way = ways[at if len(ring) == 2 else 0]
        lifted += (place,) + (way if place <= onward else way[::-1])
    return plain_form(lifted)


def plain_pushed(states, log, places):
    """4.5, step by step."""
    pushed = set(places)
    for state, step in zip(states, log):
        if step[0] != "many" and step[1] in pushed:
            pushed.discard(step[1])
            if step[0] == "two":
                pushed.add(min(other for other, way in plain_beside(state, step[1])))
    return tuple(sorted(pushed))


def drawn_cases(seed, count, most=6):
    """Webs, logs (broken off, too) and the states on the way."""
    rng = random.Random(seed)
    for web in small_webs(seed, count, most):
        yield (web,) + drawn_log(rng, web)


def broader_cases(seed):
    """Webs of as many places and ties as are handed in here."""
    rng = random.Random(seed)
    for many, count in ((24, 30), (24, 26), (24, 23), (20, 30), (16, 30), (12, 30), (8, 30)):
        for web in (drawn_web(rng, many, count), drawn_plain(rng, many, min(count, many * (many - 1) // 2))):
            for most in (61, 61, 12, 5):
                yield (web,) + drawn_log(rng, web, most)


class LiftPlaces(unittest.TestCase):
    def held(self, web, log, states, places):
        if plain_clears(plain_core(web, states[-1]), places):
            told = lift_places(web, log, places)
            self.assertIs(type(told), tuple)
            self.assertEqual(told, tuple(sorted(set(places) | set(states[-1][2]))))
            self.assertTrue(plain_clears(web, told))
            self.assertEqual(lift_places(web, tuple(log), places), told)
        else:
            with self.assertRaises(NotClear):
                lift_places(web, log, places)

    def test_all_sets_of_small_webs(self):
        for web, log, states in drawn_cases(111, 150, 5):
            for places in all_sets(web[0]):
                self.held(web, log, states, places)

    def test_broader_webs(self):
        rng = random.Random(112)
        for web, log, states in broader_cases(112):
            for size in (0, 1, 3, 5, web[0] // 2, web[0]):
                self.held(web, log, states, drawn_set(rng, web[0], size))

    def test_places_that_were_taken_already(self):
        self.assertEqual(lift_places(looped(), [("loop", 0)], ()), (0,))
        self.assertEqual(lift_places(looped(), [("loop", 0)], (0,)), (0,))
        self.assertEqual(lift_places(looped(), [], (0,)), (0,))
        with self.assertRaises(NotClear):
            lift_places(looped(), [], ())


class LiftRing(unittest.TestCase):
    def held(self, web, log, state, ring):
        told = lift_ring(web, log, ring)
        self.assertIs(type(told), tuple)
        self.assertTrue(plain_ring(web, told))
        self.assertEqual(told, plain_form(told))
        self.assertEqual(told, plain_lifted(state, plain_form(ring)))
        self.assertEqual(lift_ring(web, tuple(log), ring), told)

    def test_all_rows_of_small_webs(self):
        for web, log, states in drawn_cases(113, 120, 5):
            core = plain_core(web, states[-1])
            for size in range(web[0] + 1):
                for row in permutations(range(web[0]), size):
                    if plain_ring(core, row):
                        self.held(web, log, states[-1], row)
                    else:
                        with self.assertRaises(NoRing):
                            lift_ring(web, log, row)

    def test_ways_with_many_places(self):
        rng = random.Random(114)
        for base in (theta(3), whole_web(4), plain_web(3, [(0, 1)] * 4 + [(1, 2)] * 3 + [(0, 2)]),
                     plain_web(2, [(0, 0), (0, 0), (0, 1), (1, 1)])):
            for k in range(30):
                web = self.stretched(rng, base)
                log, states = drawn_log(rng, web, 24)
                core = plain_core(web, states[-1])
                for ring in self.some_rings(core):
                    for row in turned(ring):
                        self.held(web, log, states[-1], row)

    def stretched(self, rng, web):
        """The same web with further places put on its ties, and the places mixed."""
        many = web[0]
        pairs = list(web[1])
        while many < 16 and len(pairs) < 30:
            a, b = pairs.pop(rng.randrange(len(pairs)))
            pairs += [(a, many), (many, b)]
            many += 1
        order = list(range(many))
        rng.shuffle(order)
        return plain_web(many, [(order[a], order[b]) for a, b in pairs])

    def some_rings(self, core):
        """Rings of the core whose places aren't many."""
        used = sorted({place for tie in core[1] for place in tie})
        if len(used) > 6:
            return []
        names = {place: at for at, place in enumerate(used)}
        small = plain_web(len(used), [(names[a], names[b]) for a, b in core[1]])
        return [tuple(used[place] for place in ring) for ring in plain_rings(small)]

    def test_rings_of_one_two_and_more_places(self):
        log = [("two", 0), ("two", 1), ("two", 3)]
        self.assertEqual(lift_ring(circle(4), log, (2,)), (0, 1, 2, 3))
        self.assertEqual(lift_ring(circle(4), log[:2], (2, 3)), (0, 1, 2, 3))
        self.assertEqual(lift_ring(circle(4), log[:2], (3, 2)), (0, 1, 2, 3))
        self.assertEqual(lift_ring(circle(4), log[:1], (3, 1, 2)), (0, 1, 2, 3))
        self.assertEqual(lift_ring(circle(4), [], (3, 2, 1, 0)), (0, 1, 2, 3))

    def test_the_first_ties_are_gone_by(self):
        web = plain_web(6, [(0, 1), (0, 2), (2, 1), (0, 3), (3, 1), (0, 4), (4, 5), (5, 1)])
        log = [("two", 3), ("two", 2), ("two", 5), ("two", 4)]
        self.assertEqual(lift_ring(web, log, (1, 0)), (0, 1, 2))
        self.assertEqual(lift_ring(web, log + [("many", 0, 1)], (0, 1)), (0, 1, 2))
        loops = plain_web(5, [(2, 2), (2, 0), (2, 0), (2, 1), (1, 3), (2, 3), (2, 4), (2, 4)])
        self.assertEqual(lift_ring(loops, [("two", 4), ("two", 3), ("two", 1), ("two", 0)], (2,)), (2,))
        loops = plain_web(5, [(2, 0), (2, 0), (2, 1), (1, 3), (2, 3), (2, 4), (2, 4)])
        self.assertEqual(lift_ring(loops, [("two", 4), ("two", 3), ("two", 1), ("two", 0)], (2,)), (0, 2))
        self.assertEqual(lift_ring(loops, [("two", 4), ("two", 3), ("two", 1)], (2,)), (1, 2, 3))
        self.assertEqual(lift_ring(loops, [("two", 4)], (2,)), (2, 4))

    def test_no_ring_of_the_core(self):
        web = joined(circle(4), looped())
        for ring in ((), (0,), (0, 1, 2), (4, 4), (-1,), (5,), (FAR,), (-FAR,), (0, 1, 2, FAR), (0, 1, 2, -1),
                     (0, 1, 2, 3, 4), (0, 2, 1, 3), (0, 1), (1, 1), (0, 1, 2, 3, 0)):
            with self.assertRaises(NoRing):
                lift_ring(web, [], ring)
        for ring in ((4,), (0, 1, 2, 3), (0,)):
            with self.assertRaises(NoRing):
                lift_ring(web, [("loop", 4), ("two", 0)], ring)

    def test_broader_webs(self):
        for web, log, states in broader_cases(115):
            for ring in self.some_rings(plain_core(web, states[-1])):
                self.held(web, log, states[-1], ring)


class PushPlaces(unittest.TestCase):
    def held(self, web, log, states, places):
        if not plain_clears(web, places):
            with self.assertRaises(NotClear):
                push_places(web, log, places)
            return
        told = push_places(web, log, places)
        self.assertIs(type(told), tuple)
        self.assertEqual(told, plain_pushed(states, log, places))
        self.assertTrue(plain_clears(plain_core(web, states[-1]), told))
        self.assertLessEqual(len(told), len(places) - len(states[-1][2]))
        self.assertEqual(push_places(web, tuple(log), places), told)

    def test_all_sets_of_small_webs(self):
        for web, log, states in drawn_cases(116, 200, 6):
            for places in all_sets(web[0]):
                self.held(web, log, states, places)

    def test_broader_webs(self):
        rng = random.Random(117)
        for web, log, states in broader_cases(117):
            for size in (3, 5, web[0] // 2, web[0] - 2, web[0] - 1, web[0]):
                self.held(web, log, states, drawn_set(rng, web[0], size))

    def test_the_lesser_neighbour_is_put_in(self):
        self.assertEqual(push_places(circle(4), [("two", 2)], (2,)), (1,))
        self.assertEqual(push_places(circle(4), [("two", 0)], (0,)), (1,))
        self.assertEqual(push_places(circle(4), [("two", 3)], (3,)), (0,))
        self.assertEqual(push_places(circle(4), [("two", 3)], (0, 3)), (0,))
        self.assertEqual(push_places(circle(4), [("two", 3)], (2, 3)), (0, 2))
        self.assertEqual(push_places(circle(4), [("two", 0), ("two", 1)], (0,)), (2,))
        self.assertEqual(push_places(plain_web(2, [(0, 1)] * 2), [("two", 0)], (0,)), (1,))

    def test_lone_loop_and_many(self):
        web = joined(looped(), bare(1), plain_web(2, [(0, 1)] * 3))
        log = [("lone", 1), ("loop", 0), ("many", 2, 3)]
        self.assertEqual(push_places(web, log, (0, 1, 3)), (3,))
        self.assertEqual(push_places(web, log[:1], (0, 1, 3)), (0, 3))
        self.assertEqual(push_places(web, [], (0, 1, 3)), (0, 1, 3))


class Fewest(unittest.TestCase):
    def test_as_many_as_taken_and_the_fewest_of_the_core(self):
        for web, log, states in drawn_cases(118, 200, 7):
            core = plain_core(web, states[-1])
            fewest = plain_fewest(core)
            self.assertEqual(plain_fewest(web), len(states[-1][2]) + fewest)
            places = next(row for row in all_sets(web[0]) if len(row) == fewest and plain_clears(core, row))
            self.assertEqual(len(lift_places(web, log, places)), plain_fewest(web))

    def test_by_the_program_s_own_log(self):
        for web in small_webs(119, 80, 6):
            log = ruled_log(web)
            fewest = next(row for row in all_sets(web[0]) if plain_clears(web, row))
            pushed = push_places(web, log, fewest)
            self.assertEqual(len(lift_places(web, log, pushed)), len(fewest))


class Refused(unittest.TestCase):
    def refused(self, at, call, *handed):
        with self.assertRaises(NoStep) as caught:
            call(*handed)
        self.assertEqual(caught.exception.at, at)

    def test_no_step_goes_ahead_of_all_else(self):
        web = joined(circle(3), looped())
        for log, at in (([("lone", 0)], 0), ([("loop", 3), ("loop", 3)], 1), ([("loop", 3), ("two",)], 1),
                        ([("two", 0), ("two", 1), ("many", 2, 3), ("two", 0)], 2), ([("loop", FAR)], 0)):
            for row in (log, tuple(log)):
                self.refused(at, lift_places, web, row, ())
                self.refused(at, lift_places, web, row, (0, 1, 2, 3))
                self.refused(at, push_places, web, row, ())
                self.refused(at, push_places, web, row, (0, 3))
                for ring in ((), (0,), (FAR, -1), (3,), (0, 1, 2)):
                    self.refused(at, lift_ring, web, row, ring)

    def test_what_is_handed_in_stays(self):
        web = joined(circle(3), looped())
        log = [("loop", 3), ("two", 0)]
        lift_places(web, log, (1,))
        lift_ring(web, log, (1, 2))
        push_places(web, log, (0, 3))
        self.assertEqual(log, [("loop", 3), ("two", 0)])

    def test_arguments_by_their_names(self):
        web = joined(circle(3), looped())
        log = [("loop", 3)]
        self.assertEqual(lift_places(places=(1,), log=log, web=web), (1, 3))
        self.assertEqual(lift_ring(ring=(2, 1, 0), log=log, web=web), (0, 1, 2))
        self.assertEqual(push_places(places=(1, 3), log=log, web=web), (1,))


if __name__ == "__main__":
    unittest.main()
