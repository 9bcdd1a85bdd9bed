"""10.1: one-way webs and their rounds, and 0.2, 0.4 as far as they speak of them."""

import copy
import random
import unittest
from itertools import permutations

from ringfell.errors import BadWeb, NoTie, TooMany
from ringfell.oneways import (all_rounds, arrows_in, arrows_out, both_ways, cut_oneway, is_round, less_arrow,
                              made_oneway, put_arrow, round_form, turned_arrows)
from tests.helpers import (FAR, NO_NUMBERS, NO_PAIRS, NO_ROWS, all_sets, bare, circle, drawn_set, large_webs, looped,
                           plain_web, small_webs, soon, whole_web)
from tests.ways import (all_pairs, behind, circled, drawn_oneway, large_oneways, oneway, plain_round, plain_rounds,
                        small_oneways, whole_oneway)


class Held(unittest.TestCase):
    def web(self, told, wanted):
        self.assertEqual(told, wanted)
        self.assertIs(type(told), tuple)
        self.assertIs(type(told[1]), tuple)
        self.assertTrue(all(type(arrow) is tuple for arrow in told[1]))


class Made(Held):
    def refused(self, at, many, arrows):
        with self.assertRaises(BadWeb) as caught:
            made_oneway(many, arrows)
        self.assertEqual(caught.exception.at, at)

    def test_pairs_in_their_direction_in_any_order(self):
        wanted = (4, ((0, 1), (1, 0), (1, 1), (2, 1), (3, 0)))
        rows = [[1, 0], (3, 0), [1, 1], (2, 1), [0, 1]]
        rng = random.Random(1001)
        for k in range(40):
            rng.shuffle(rows)
            for row in (list(rows), tuple(rows), [list(pair) for pair in rows], [tuple(pair) for pair in rows]):
                self.web(made_oneway(4, row), wanted)

    def test_drawn_rows(self):
        rng = random.Random(1002)
        for k in range(100):
            many = rng.randrange(1, 41)
            pairs = rng.sample(all_pairs(many), rng.randrange(min(200, many * many) + 1))
            self.web(made_oneway(many, [list(pair) for pair in pairs]), oneway(many, pairs))

    def test_edges_of_the_numbers(self):
        for many in range(41):
            self.web(made_oneway(many, ()), (many, ()))
            self.web(made_oneway(many, []), (many, ()))
        self.web(made_oneway(1, [(0, 0)]), (1, ((0, 0),)))
        self.web(made_oneway(40, [(39, 0), [39, 39], (0, 39)]), (40, ((0, 39), (39, 0), (39, 39))))

    def test_how_many_arrows(self):
        rng = random.Random(1003)
        for count in (199, 200):
            pairs = rng.sample(all_pairs(40), count)
            self.web(made_oneway(40, pairs), oneway(40, pairs))
        for count in (201, 202, 1600):
            pairs = rng.sample(all_pairs(40), count)
            with self.assertRaises(TooMany):
                made_oneway(40, pairs)
            with self.assertRaises(TooMany):
                made_oneway(40, tuple(list(pair) for pair in pairs))

    def test_a_pair_that_stands_ahead_already(self):
        for again in ((0, 1), [0, 1]):
            for first in ((0, 1), [0, 1]):
                self.refused(1, 3, [first, again])
                self.refused(2, 3, (first, (1, 0), again))
                self.refused(2, 3, [(1, 0), first, again, None])
                self.refused(3, 3, [(2, 2), first, [1, 0], again, again])
        self.refused(1, 3, [(2, 2), [2, 2]])
        self.refused(1, 3, [(0, 1), None, (0, 1)])
        self.refused(4, 40, [(39, 0), (0, 39), (39, 39), (0, 0), (0, 39)])
        self.web(made_oneway(3, [(0, 1), (1, 0)]), (3, ((0, 1), (1, 0))))

    def test_no_number(self):
        for many in NO_NUMBERS:
            for row in ([], (), [(0, 0)], [(FAR, 1)], [(0, 0)] * 201, None, "ab"):
                with self.subTest(many=many, row=row):
                    self.refused(-1, many, row)

    def test_no_row(self):
        for row in NO_ROWS:
            with self.subTest(row=row):
                self.refused(-1, 3, row)
                self.refused(-1, 0, row)

    def test_first_thing_that_is_no_pair(self):
        for thing in NO_PAIRS:
            with self.subTest(thing=thing):
                self.refused(0, 3, [thing])
                self.refused(0, 3, (thing,))
                self.refused(2, 3, [(0, 1), [2, 2], thing, (0, 1), None])
                self.refused(1, 3, ((0, 1), thing, thing, (7, 7)))

    def test_places_of_just_this_web(self):
        for many in (0, 1, 2, 5, 39, 40):
            for pair in ((many, many), (0, many), (many, 0), [many - 1, many], (-1, many - 1)):
                self.refused(0, many, [pair])

    def test_no_pair_goes_ahead_of_too_many(self):
        good = all_pairs(20)[:230]
        for at in (0, 198, 199, 200, 201, 229):
            for thing in (None, (0, 20), (0, 1, 2), "01", (True, 1), good[at - 1] if at else (20, 20)):
                row = list(good)
                row[at] = thing
                self.refused(at, 20, row)
                self.refused(at, 20, tuple(row))
        self.refused(1, 3, [(0, 1)] * 201)

    def test_a_row_that_holds_itself(self):
        row = [(0, 1)]
        row.append(row)
        self.refused(1, 3, row)

    def test_what_is_handed_in_stays_and_is_not_kept(self):
        row = [[2, 1], (1, 0), [2, 2]]
        before = copy.deepcopy(row)
        web = made_oneway(3, row)
        self.assertEqual(row, before)
        row[0][0] = 0
        row.append([0, 0])
        self.assertEqual(web, (3, ((1, 0), (2, 1), (2, 2))))


class Asked(Held):
    def test_arrows_out_and_in(self):
        for web in small_oneways(1011, 80) + large_oneways(1012):
            for place in range(web[0]):
                out = arrows_out(web, place)
                into = arrows_in(web, place)
                self.assertEqual(out, tuple(sorted(b for a, b in web[1] if a == place)))
                self.assertEqual(into, tuple(sorted(a for a, b in web[1] if b == place)))
                self.assertIs(type(out), tuple)
                self.assertIs(type(into), tuple)

    def test_loops_lead_out_and_in(self):
        web = oneway(3, [(1, 1), (1, 2), (0, 1)])
        self.assertEqual(arrows_out(web, 1), (1, 2))
        self.assertEqual(arrows_in(web, 1), (0, 1))
        self.assertEqual((arrows_out(web, 2), arrows_in(web, 2)), ((), (1,)))
        self.assertEqual((arrows_out(web, 0), arrows_in(web, 0)), ((1,), ()))


class Changed(Held):
    def test_cut_oneway(self):
        for web in small_oneways(1021, 60):
            for places in all_sets(web[0]):
                wanted = tuple(arrow for arrow in web[1] if not set(arrow) & set(places))
                self.web(cut_oneway(web, places), (web[0], wanted))
        rng = random.Random(1022)
        for web in large_oneways(1023):
            for size in (0, 1, 10, web[0]):
                places = drawn_set(rng, web[0], size)
                wanted = tuple(arrow for arrow in web[1] if not set(arrow) & set(places))
                self.web(cut_oneway(web, places), (web[0], wanted))

    def test_put_arrow(self):
        for web in small_oneways(1024, 60):
            for pair in all_pairs(web[0]):
                self.web(put_arrow(web, *pair), oneway(web[0], web[1] + (pair,)))
        self.web(put_arrow((2, ()), 1, 0), (2, ((1, 0),)))
        self.web(put_arrow((2, ((1, 0),)), 0, 1), (2, ((0, 1), (1, 0))))
        self.web(put_arrow((2, ((1, 0),)), 1, 0), (2, ((1, 0),)))

    def test_put_arrow_up_to_two_hundred(self):
        rng = random.Random(1025)
        pairs = rng.sample(all_pairs(40), 202)
        web = oneway(40, pairs[:199])
        full = put_arrow(web, *pairs[199])
        self.web(full, oneway(40, pairs[:200]))
        for pair in pairs[:200]:
            self.web(put_arrow(full, *pair), full)
        for pair in pairs[200:]:
            with self.assertRaises(TooMany):
                put_arrow(full, *pair)

    def test_less_arrow(self):
        for web in small_oneways(1026, 60):
            for pair in all_pairs(web[0]):
                if pair in web[1]:
                    wanted = tuple(arrow for arrow in web[1] if arrow != pair)
                    self.web(less_arrow(web, *pair), (web[0], wanted))
                else:
                    with self.assertRaises(NoTie):
                        less_arrow(web, *pair)
        self.web(less_arrow((2, ((0, 1), (1, 0))), 1, 0), (2, ((0, 1),)))
        with self.assertRaises(NoTie):
            less_arrow((2, ((0, 1),)), 1, 0)

    def test_turned_arrows(self):
        for web in small_oneways(1027, 60) + large_oneways(1028):
            told = turned_arrows(web)
            self.web(told, oneway(web[0], [(b, a) for a, b in web[1]]))
            self.web(turned_arrows(told), web)

    def test_both_ways(self):
        for web in small_webs(1029, 120):
            wanted = oneway(web[0], list(web[1]) + [(b, a) for a, b in web[1]])
            self.web(both_ways(web), wanted)
        self.web(both_ways(looped()), (1, ((0, 0),)))
        self.web(both_ways(plain_web(3, [(0, 1)] * 5 + [(2, 2)] * 3)), (3, ((0, 1), (1, 0), (2, 2))))
        self.web(both_ways(plain_web(40, [(3, 30)] * 200)), (40, ((3, 30), (30, 3))))
        self.web(both_ways(bare(0)), (0, ()))

    def test_both_ways_up_to_two_hundred(self):
        hundred = plain_web(40, [(a, b) for a in range(5) for b in range(5, 25)])
        self.assertEqual(len(hundred[1]), 100)
        self.assertEqual(len(both_ways(hundred)[1]), 200)
        twice = plain_web(40, list(hundred[1]) * 2)
        self.web(both_ways(twice), both_ways(hundred))
        loops = plain_web(40, list(hundred[1][:99]) + [(0, 0), (1, 1), (1, 1)])
        self.assertEqual(len(both_ways(loops)[1]), 200)
        for web in (plain_web(40, hundred[1] + ((0, 0),)), plain_web(40, hundred[1] + ((0, 30),)), whole_web(20),
                    plain_web(40, hundred[1][:99] + ((0, 0), (1, 1), (2, 2)))):
            with self.assertRaises(TooMany):
                both_ways(web)

    def test_larger_webs_both_ways(self):
        for web in large_webs(1030):
            wanted = oneway(web[0], list(web[1]) + [(b, a) for a, b in web[1]])
            if len(wanted[1]) <= 200:
                self.web(both_ways(web), wanted)
            else:
                with self.assertRaises(TooMany):
                    both_ways(web)


class Rounds(unittest.TestCase):
    def test_is_round_of_all_rows(self):
        for web in small_oneways(1031, 40, 4):
            rows = [()] + [row for size in range(1, 5) for row in permutations(range(-1, 5), size)]
            for row in rows:
                told = is_round(web, row)
                self.assertIs(told, plain_round(web, row))

    def test_is_round_of_any_numbers(self):
        web = oneway(4, [(0, 1), (1, 2), (2, 0), (2, 1), (3, 3)])
        for row in ((0, 1, 2), (1, 2, 0), (2, 0, 1), (1, 2), (2, 1), (3,)):
            self.assertIs(is_round(web, row), True)
        for row in ((), (0,), (0, 1), (2, 1, 0), (0, 2, 1), (0, 1, 2, 0), (0, 1, 2, 0, 1, 2), (1, 2, 1, 2), (3, 3),
                    (3, 3, 3), (0, 1, 2, 3), (4,), (-1,), (-2,), (FAR,), (-FAR,), (0, 1, FAR), (0, 1, -2), (0, 1, 6),
                    (-4, 1, 2), (FAR, FAR), (1, 2, -FAR)):
            self.assertIs(is_round(web, row), False)
        self.assertIs(is_round((0, ()), ()), False)
        self.assertIs(is_round((0, ()), (0,)), False)
        long = circled(40)
        self.assertIs(is_round(long, tuple(range(40))), True)
        self.assertIs(is_round(long, tuple(range(39, -1, -1))), False)
        self.assertIs(is_round(long, tuple(range(39))), False)

    def test_round_form(self):
        rng = random.Random(1032)
        for k in range(100):
            row = rng.sample(range(40), rng.randrange(1, 10))
            told = round_form(tuple(row))
            self.assertIs(type(told), tuple)
            at = row.index(min(row))
            self.assertEqual(told, tuple(row[at:] + row[:at]))
        self.assertEqual(round_form((3,)), (3,))
        self.assertEqual(round_form((5, 2)), (2, 5))
        self.assertEqual(round_form((2, 5, 3)), (2, 5, 3))
        self.assertEqual(round_form((3, 2, 5)), (2, 5, 3))
        self.assertEqual(round_form((5, 3, 2)), (2, 5, 3))


class AllRounds(unittest.TestCase):
    def told(self, web):
        told = all_rounds(web)
        self.assertIs(type(told), list)
        self.assertTrue(all(type(row) is tuple for row in told))
        self.assertEqual(all_rounds(web), told)
        return told

    def refused(self, web):
        with soon(), self.assertRaises(TooMany):
            all_rounds(web)

    def test_against_a_search(self):
        for web in small_oneways(1041, 250, 6):
            wanted = plain_rounds(web)
            if len(wanted) <= 300:
                self.assertEqual(self.told(web), wanted)
            else:
                self.refused(web)

    def test_named_webs(self):
        self.assertEqual(self.told((0, ())), [])
        self.assertEqual(self.told((40, ())), [])
        self.assertEqual(self.told((1, ((0, 0),))), [(0,)])
        self.assertEqual(self.told(oneway(3, [(0, 0), (0, 1), (1, 0), (1, 2), (2, 0)])), [(0,), (0, 1), (0, 1, 2)])
        self.assertEqual(self.told(circled(40)), [tuple(range(40))])
        self.assertEqual(self.told(turned_arrows(circled(5))), [(0, 4, 3, 2, 1)])
        self.assertEqual(self.told(both_ways(circle(4))), [(0, 1), (0, 1, 2, 3), (0, 3), (0, 3, 2, 1), (1, 2), (2, 3)])
        self.assertEqual(self.told(oneway(40, [(place, place) for place in range(40)])), [(p,) for p in range(40)])

    def test_around_three_hundred(self):
        pieces = [whole_oneway(5)] * 3 + [whole_oneway(4)] * 2
        wanted = []
        many = 0
        for piece in pieces:
            wanted += [tuple(place + many for place in row) for row in plain_rounds(piece)]
            many += piece[0]
        self.assertEqual(len(wanted), 3 * 84 + 2 * 20)
        for loops in range(12):
            web = behind(*pieces, oneway(11, [(place, place) for place in range(loops)]))
            if loops <= 8:
                self.assertEqual(self.told(web), sorted(wanted + [(many + place,) for place in range(loops)]))
            else:
                self.refused(web)

    def test_three_hundred_in_one_knot(self):
        # From 0 by one of five, one of six, one of ten places back to it.
        rows = [range(1, 6), range(6, 12), range(12, 22)]
        pairs = [(0, a) for a in rows[0]] + [(c, 0) for c in rows[2]]
        pairs += [(a, b) for a in rows[0] for b in rows[1]] + [(b, c) for b in rows[1] for c in rows[2]]
        wanted = [(0, a, b, c) for a in rows[0] for b in rows[1] for c in rows[2]]
        self.assertEqual(self.told(oneway(22, pairs)), wanted)
        self.assertEqual(len(self.told(oneway(22, pairs[1:]))), 240)
        for more in ((0, 0), (21, 21), (1, 0), (21, 1)):
            self.refused(oneway(22, pairs + [more]))
        self.assertEqual(len(self.told(oneway(24, pairs + [(21, 22), (22, 23)]))), 300)

    def test_back_along_a_row(self):
        # Each round goes back by just one arrow.
        rng = random.Random(1042)
        row = [(place, place + 1) for place in range(39)]
        for k in range(3):
            back = rng.sample([(b, a) for a in range(40) for b in range(a, 40)], 161)
            wanted = sorted(tuple(range(a, b + 1)) for b, a in back)
            self.assertEqual(self.told(oneway(40, row + back)), wanted)

    def test_too_many_comes_soon(self):
        rng = random.Random(1043)
        webs = [drawn_oneway(rng, 40, 200), drawn_oneway(rng, 40, 200, False), drawn_oneway(rng, 15, 200),
                drawn_oneway(rng, 20, 200, False), whole_oneway(14), drawn_oneway(rng, 40, 150, False)]
        webs.append(oneway(40, [(k, (k + 1) % 40) for k in range(40)] + [(k, (k + 2) % 40) for k in range(40)]))
        webs.append(oneway(40, [(k, (k + s) % 40) for k in range(40) for s in (1, 2, 3, 4, 5)]))
        for web in webs:
            self.refused(web)

    def test_few_rounds_and_many_dead_ends(self):
        # Very many ways on, but one arrow back at most.
        onward = [(a, b) for a in range(40) for b in range(a + 1, min(a + 6, 40))]
        self.assertLessEqual(len(onward), 199)
        with soon():
            self.assertEqual(self.told(oneway(40, onward)), [])
            self.assertEqual(self.told(oneway(40, onward + [(1, 0)])), [(0, 1)])
            self.assertEqual(self.told(oneway(40, onward + [(39, 38)])), [(38, 39)])
            self.assertEqual(self.told(oneway(40, onward + [(20, 20)])), [(20,)])
            self.assertEqual(self.told(turned_arrows(oneway(40, onward + [(1, 0)]))), [(0, 1)])

    def test_knots_in_a_row(self):
        # Whole webs in a row, each two neighbours with one common place: very many ways from end to end.
        pairs = []
        for first in range(0, 39, 3):
            pairs += [(first + a, first + b) for a, b in whole_oneway(4)[1]]
        web = oneway(40, pairs)
        self.assertEqual(len(web[1]), 156)
        with soon():
            told = self.told(web)
        self.assertEqual(len(told), 13 * 20)
        rows = plain_rounds(whole_oneway(4))
        self.assertEqual(told, sorted(tuple(place + 3 * k for place in row) for row in rows for k in range(13)))

    def test_turned_about(self):
        for web in small_oneways(1044, 80):
            turned = sorted(round_form(row[::-1]) for row in all_rounds(web))
            self.assertEqual(all_rounds(turned_arrows(web)), turned)

    def test_told_lists_are_the_askers_own(self):
        told = all_rounds(circled(3))
        told.append(None)
        told[0] = None
        self.assertEqual(all_rounds(circled(3)), [(0, 1, 2)])


class Named(unittest.TestCase):
    def test_arguments_by_their_names(self):
        web = made_oneway(arrows=[(1, 0), (0, 1)], many=3)
        self.assertEqual(web, (3, ((0, 1), (1, 0))))
        self.assertEqual(arrows_out(place=0, web=web), (1,))
        self.assertEqual(arrows_in(place=1, web=web), (0,))
        self.assertEqual(cut_oneway(places=(0,), web=web), (3, ()))
        self.assertEqual(put_arrow(other=0, one=2, web=web), (3, ((0, 1), (1, 0), (2, 0))))
        self.assertEqual(less_arrow(other=0, one=1, web=web), (3, ((0, 1),)))
        self.assertEqual(turned_arrows(web=(3, ((0, 2),))), (3, ((2, 0),)))
        self.assertEqual(both_ways(web=(2, ((0, 1),))), (2, ((0, 1), (1, 0))))
        self.assertIs(is_round(places=(1, 0), web=web), True)
        self.assertEqual(round_form(places=(1, 0)), (0, 1))
        self.assertEqual(all_rounds(web=web), [(0, 1)])


if __name__ == "__main__":
    unittest.main()
