"""3.1 to 3.4: sets that clear, and 0.2 as far as it speaks of them."""

import copy
import random
import unittest

from ringfell.clears import clears_web, least_right, own_ring, shown_clear, thinned_cut
from ringfell.errors import NotClear
from tests.helpers import (FAR, all_sets, bare, circle, drawn_set, joined, large_webs, looped, plain_clears,
                           plain_cut, plain_form, plain_on_ring, plain_order, plain_ring, plain_rings, plain_web,
                           renamed, small_webs, soon, theta, three_tied, turned, whole_web)


def large_cases(seed, sizes):
    rng = random.Random(seed)
    for web in large_webs(seed):
        for size in sizes:
            yield web, drawn_set(rng, web[0], size)


def plain_own(web, places, place, ring):
    return plain_ring(web, ring) and set(ring) & set(places) == {place}


class Shown(unittest.TestCase):
    def held(self, web, places):
        clears = plain_clears(web, places)
        self.assertIs(clears_web(web, places), clears)
        told = shown_clear(web, places)
        self.assertIs(type(told), tuple)
        self.assertEqual(len(told), 2)
        if clears:
            self.assertEqual(told[0], "clears")
            self.assertIs(type(told[1]), list)
            self.assertTrue(plain_order(web, told[1], places))
        else:
            self.assertEqual(told[0], "ring")
            self.assertIs(type(told[1]), tuple)
            self.assertTrue(plain_ring(web, told[1]))
            self.assertEqual(told[1], plain_form(told[1]))
            self.assertFalse(set(told[1]) & set(places))
        self.assertEqual(shown_clear(web, places), told)

    def test_all_sets_of_small_webs(self):
        for web in small_webs(81, 120):
            for places in all_sets(web[0]):
                self.held(web, places)

    def test_drawn_sets_of_large_webs(self):
        for web, places in large_cases(82, (0, 1, 3, 10, 20, 30, 37, 39, 40)):
            with soon():
                self.held(web, places)

    def test_edges(self):
        self.assertEqual(shown_clear(bare(0), ()), ("clears", []))
        self.assertEqual(shown_clear(looped(), (0,)), ("clears", []))
        self.assertEqual(shown_clear(looped(), ()), ("ring", (0,)))
        self.assertEqual(shown_clear(whole_web(5), (0, 1, 2, 3, 4)), ("clears", []))
        self.assertIs(clears_web(bare(0), ()), True)
        self.assertIs(clears_web(circle(40), ()), False)
        self.assertIs(clears_web(circle(40), (39,)), True)

    def test_told_lists_are_the_askers_own(self):
        told = shown_clear(circle(4), (1,))
        kept = list(told[1])
        told[1].append(1)
        told[1][0] = None
        self.assertEqual(shown_clear(circle(4), (1,)), ("clears", kept))


class Own(unittest.TestCase):
    def held(self, web, places, rings):
        for place in places:
            told = own_ring(web, places, place)
            if any(set(ring) & set(places) == {place} for ring in rings):
                self.assertIs(type(told), tuple)
                self.assertTrue(plain_own(web, places, place, told))
                self.assertEqual(told, plain_form(told))
            else:
                self.assertIsNone(told)

    def test_all_sets_of_small_webs(self):
        for web in small_webs(83, 120):
            rings = plain_rings(web)
            for places in all_sets(web[0]):
                self.held(web, places, rings)

    def test_sets_that_do_not_clear(self):
        # The ring is one of the place's own, not just any that is left.
        web = joined(circle(3), plain_web(3, [(0, 1), (1, 2)]), looped())
        for place in (3, 4, 5):
            self.assertIsNone(own_ring(web, (place,), place))
        self.assertEqual(own_ring(web, (2,), 2), (0, 1, 2))
        self.assertIsNone(own_ring(web, (1, 2), 1))
        tail = plain_web(5, [(0, 1), (1, 2), (2, 0), (2, 3), (3, 4)])
        self.assertIsNone(own_ring(tail, (3,), 3))

    def test_one_and_two_places(self):
        web = plain_web(3, [(0, 0), (0, 1), (0, 1), (1, 2), (1, 2)])
        self.assertEqual(own_ring(web, (0, 1), 0), (0,))
        self.assertEqual(own_ring(web, (0, 1), 1), (1, 2))
        self.assertEqual(own_ring(web, (0, 2), 2), (1, 2))
        self.assertIsNone(own_ring(web, (0, 1, 2), 2))

    def test_large_webs(self):
        for web, places in large_cases(84, (1, 5, 15, 25, 35, 40)):
            for place in places[::4]:
                with soon():
                    told = own_ring(web, places, place)
                rest = tuple(other for other in places if other != place)
                self.assertEqual(told is not None, plain_on_ring(plain_cut(web, rest), place))
                if told is not None:
                    self.assertTrue(plain_own(web, places, place, told))
                    self.assertEqual(told, plain_form(told))


class Thinned(unittest.TestCase):
    def held(self, web, places):
        if not plain_clears(web, places):
            with self.assertRaises(NotClear):
                thinned_cut(web, places)
            return
        rows = thinned_cut(web, places)
        self.assertIs(type(rows), list)
        self.assertTrue(all(type(row) is tuple and len(row) == 2 for row in rows))
        left = tuple(row[0] for row in rows)
        self.assertEqual(list(left), sorted(set(left)))
        self.assertLessEqual(set(left), set(places))
        self.assertTrue(plain_clears(web, left))
        for place, ring in rows:
            self.assertIs(type(ring), tuple)
            self.assertTrue(plain_own(web, left, place, ring))
            self.assertEqual(ring, plain_form(ring))
        self.assertIs(least_right(web, rows), True)
        self.assertEqual(thinned_cut(web, places), rows)

    def test_all_sets_of_small_webs(self):
        for web in small_webs(85, 120):
            for places in all_sets(web[0]):
                self.held(web, places)

    def test_large_webs(self):
        for web, places in large_cases(86, (0, 20, 36, 38, 40)):
            with soon():
                self.held(web, places)

    def test_long_rings(self):
        rng = random.Random(87)
        for web, length in three_tied():
            web = renamed(rng, web)
            self.held(web, tuple(range(web[0])))

    def test_edges(self):
        self.assertEqual(thinned_cut(bare(0), ()), [])
        self.assertEqual(thinned_cut(bare(3), (0, 1, 2)), [])
        self.assertEqual(thinned_cut(looped(), (0,)), [(0, (0,))])
        with self.assertRaises(NotClear):
            thinned_cut(looped(), ())

    def test_told_lists_are_the_askers_own(self):
        rows = thinned_cut(circle(4), (1,))
        rows.append(rows[0])
        self.assertEqual(thinned_cut(circle(4), (1,)), [(1, (0, 1, 2, 3))])


class LeastRight(unittest.TestCase):
    def said(self, web, rows):
        """One answer, whatever the rows' lists are."""
        before = copy.deepcopy(rows)
        told = least_right(web, rows)
        self.assertIn(told, (True, False))
        self.assertIs(type(told), bool)
        self.assertIs(least_right(web, tuple(rows)), told)
        self.assertEqual(rows, before)
        return told

    def test_all_rows_of_one_ring_each(self):
        for web in small_webs(88, 50, 4):
            rings = plain_rings(web) + [(0,), (0, 1), (2, 1, 0)]
            for places in all_sets(web[0]):
                for ring in rings:
                    rows = [(place, ring) for place in places]
                    wanted = plain_clears(web, places)
                    wanted = wanted and all(plain_own(web, places, place, ring) for place in places)
                    self.assertIs(self.said(web, rows), wanted)

    def test_rings_however_turned(self):
        for web in (theta(3), whole_web(4), circle(5), plain_web(3, [(0, 1)] * 2 + [(1, 2)] * 3 + [(2, 2)])):
            rows = thinned_cut(web, tuple(range(web[0])))
            self.assertTrue(rows)
            for at, (place, ring) in enumerate(rows):
                for way in turned(ring):
                    self.assertIs(self.said(web, rows[:at] + [(place, way)] + rows[at + 1:]), True)

    def test_lists_within(self):
        web = whole_web(4)
        rows = thinned_cut(web, (0, 1, 2, 3))
        self.assertIs(least_right(web, [[place, ring] for place, ring in rows]), True)
        self.assertIs(least_right(web, tuple((place, list(ring)) for place, ring in rows)), True)

    def test_rows_left_out_twice_or_in_another_order(self):
        web = joined(circle(3), circle(4), looped(), plain_web(2, [(0, 1)] * 2))
        rows = [(1, (0, 1, 2)), (3, (3, 4, 5, 6)), (7, (7,)), (9, (8, 9))]
        self.assertIs(self.said(web, rows), True)
        for at in range(4):
            self.assertIs(self.said(web, rows[:at] + rows[at + 1:]), False)
            self.assertIs(self.said(web, rows[:at + 1] + rows[at:]), False)
            if at < 3:
                self.assertIs(self.said(web, rows[:at] + [rows[at + 1], rows[at]] + rows[at + 2:]), False)
        self.assertIs(self.said(web, rows[::-1]), False)
        self.assertIs(self.said(web, []), False)
        self.assertIs(self.said(bare(3), []), True)
        self.assertIs(self.said(bare(0), []), True)

    def test_a_place_that_is_not_needed(self):
        web = plain_web(5, [(0, 1), (1, 2), (0, 2), (2, 3), (3, 4)])
        self.assertIs(self.said(web, [(2, (0, 1, 2))]), True)
        self.assertIs(self.said(web, [(1, (0, 1, 2)), (2, (0, 1, 2))]), False)
        self.assertIs(self.said(web, [(2, (0, 1, 2)), (4, (0, 1, 2))]), False)
        self.assertIs(self.said(web, [(2, (0, 1, 2)), (4, (4,))]), False)

    def test_numbers_that_are_no_places(self):
        web = plain_web(3, [(0, 1), (1, 2), (0, 2)])
        for number in (-1, -3, -FAR, 3, 4, FAR):
            self.assertIs(self.said(web, [(number, (0, 1, 2))]), False)
            self.assertIs(self.said(web, sorted([(1, (0, 1, 2)), (number, (0, 1, 2))])), False)
            self.assertIs(self.said(web, sorted([(1, (0, 1, 2)), (number, (number,))])), False)
            self.assertIs(self.said(web, [(1, (0, 1, number))]), False)
            self.assertIs(self.said(web, [(1, (0, 1, 2, number))]), False)
            self.assertIs(self.said(bare(0), [(number, (number,))]), False)

    def test_wrong_rings(self):
        web = plain_web(6, [(0, 1), (1, 2), (0, 2), (2, 3), (3, 4), (4, 5), (3, 5), (1, 4)])
        rows = [(2, (0, 1, 2)), (3, (3, 4, 5))]
        self.assertIs(self.said(web, [(1, (0, 1, 2)), (4, (3, 4, 5))]), True)
        self.assertIs(self.said(web, rows), True)
        for ring in ((), (2,), (0, 1), (0, 2), (0, 1, 2, 3), (0, 1, 1, 2), (0, 2, 4), (3, 4, 5), (1, 2, 3, 4),
                     (0, 1), (2, 2, 2), (0, 1, 2, 0)):
            self.assertIs(self.said(web, [(2, ring), rows[1]]), False)
        self.assertIs(self.said(web, [(2, (3, 4, 5)), (3, (0, 1, 2))]), False)

    def test_rings_with_another_place_of_the_rows(self):
        web = plain_web(5, [(0, 1), (1, 2), (0, 2), (2, 3), (3, 4), (2, 4), (1, 3)])
        self.assertIs(self.said(web, [(0, (0, 1, 2)), (3, (2, 3, 4))]), True)
        self.assertIs(self.said(web, [(1, (0, 1, 2)), (3, (2, 3, 4))]), True)
        self.assertIs(self.said(web, [(1, (1, 2, 3)), (3, (2, 3, 4))]), False)
        self.assertIs(self.said(web, [(1, (0, 1, 2)), (3, (1, 2, 3))]), False)

    def test_large_webs(self):
        rng = random.Random(89)
        for web in large_webs(89):
            rows = thinned_cut(web, tuple(range(web[0])))
            self.assertIs(self.said(web, rows), True)
            if rows:
                at = rng.randrange(len(rows))
                self.assertIs(self.said(web, rows[:at] + rows[at + 1:]), False)
                self.assertIs(self.said(web, rows[:at] + [(rows[at][0], ())] + rows[at + 1:]), False)


class Named(unittest.TestCase):
    def test_arguments_by_their_names(self):
        web = circle(3)
        self.assertIs(clears_web(places=(0,), web=web), True)
        self.assertEqual(shown_clear(places=(), web=web), ("ring", (0, 1, 2)))
        self.assertEqual(own_ring(place=1, places=(1,), web=web), (0, 1, 2))
        self.assertEqual(thinned_cut(places=(2,), web=web), [(2, (0, 1, 2))])
        self.assertIs(least_right(rows=[(2, (0, 1, 2))], web=web), True)


if __name__ == "__main__":
    unittest.main()
