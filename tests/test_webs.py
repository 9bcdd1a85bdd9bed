"""1.1 to 1.3: webs, and 0.2 as far as it speaks of them."""

import copy
import random
import unittest

from ringfell.errors import BadWeb, NoTie, TooMany
from ringfell.webs import (cut_web, hanging_parts, less_tie, made_web, near_places, put_tie, renamed_web,
                           side_by_side, spare_ties, tied_times, ties_at, ties_within)
from tests.helpers import (FAR, NO_NUMBERS, NO_PAIRS, NO_ROWS, all_sets, bare, circle, drawn_set, drawn_web, joined,
                           large_webs, plain_clears, plain_cut, plain_parts, plain_web, small_webs, times, whole_web)


class Made(unittest.TestCase):
    def refused(self, at, many, ties):
        with self.assertRaises(BadWeb) as caught:
            made_web(many, ties)
        self.assertEqual(caught.exception.at, at)

    def test_pairs_either_way_in_any_order(self):
        wanted = (4, ((0, 1), (0, 3), (1, 1), (1, 2), (1, 2)))
        rows = [[1, 0], (3, 0), [1, 1], (2, 1), [1, 2]]
        rng = random.Random(11)
        for k in range(40):
            rng.shuffle(rows)
            for row in (list(rows), tuple(rows), [list(pair) for pair in rows], [tuple(p[::-1]) for p in rows]):
                web = made_web(4, row)
                self.assertEqual(web, wanted)
                self.assertIs(type(web), tuple)
                self.assertIs(type(web[1]), tuple)
                self.assertTrue(all(type(tie) is tuple for tie in web[1]))

    def test_drawn_rows(self):
        rng = random.Random(12)
        for k in range(200):
            many = rng.randrange(1, 41)
            row = [[rng.randrange(many), rng.randrange(many)] for j in range(rng.randrange(201))]
            self.assertEqual(made_web(many, row), plain_web(many, row))

    def test_edges_of_the_numbers(self):
        self.assertEqual(made_web(0, []), (0, ()))
        self.assertEqual(made_web(0, ()), (0, ()))
        self.assertEqual(made_web(1, [(0, 0)]), (1, ((0, 0),)))
        self.assertEqual(made_web(40, [(39, 0), [39, 39]]), (40, ((0, 39), (39, 39))))
        for many in range(41):
            self.assertEqual(made_web(many, ()), (many, ()))

    def test_how_many_ties(self):
        for count in (199, 200):
            self.assertEqual(made_web(2, [(1, 0)] * count), (2, ((0, 1),) * count))
        for count in (201, 202, 500):
            with self.assertRaises(TooMany):
                made_web(2, [(1, 0)] * count)
            with self.assertRaises(TooMany):
                made_web(40, tuple([k % 40, k * 7 % 40] for k in range(count)))

    def test_no_number(self):
        for many in NO_NUMBERS:
            for row in ([], (), [(0, 0)], [(FAR, 1)], [(0, 0)] * 201):
                with self.subTest(many=many, row=row[:1]):
                    self.refused(-1, many, row)

    def test_no_row(self):
        for row in NO_ROWS:
            with self.subTest(row=row):
                self.refused(-1, 3, row)
                self.refused(-1, 0, row)
        for many in NO_NUMBERS:
            for row in (None, "ab", {}):
                self.refused(-1, many, row)

    def test_first_thing_that_is_no_pair(self):
        for thing in NO_PAIRS:
            with self.subTest(thing=thing):
                self.refused(0, 3, [thing])
                self.refused(0, 3, (thing,))
                self.refused(2, 3, [(0, 1), [2, 2], thing, (0, 1), None])
                self.refused(1, 3, ((0, 1), thing, thing, (7, 7)))

    def test_places_of_just_this_web(self):
        for many in (0, 1, 2, 5, 39, 40):
            for pair in ((many, many), (0, many), (many, 0), [many - 1, many], (-1, many - 1)):
                self.refused(0, many, [pair])
                if many:
                    self.refused(1, many, [(many - 1, 0), pair])

    def test_no_pair_goes_ahead_of_too_many(self):
        good = [(0, 1)] * 230
        for at in (0, 198, 199, 200, 201, 229):
            for thing in (None, (0, 3), (0, 1, 2), "01", (True, 1)):
                row = list(good)
                row[at] = thing
                self.refused(at, 3, row)
                self.refused(at, 3, tuple(row))

    def test_a_row_that_holds_itself(self):
        row = [(0, 1)]
        row.append(row)
        self.refused(1, 3, row)

    def test_what_is_handed_in_stays_and_is_not_kept(self):
        row = [[2, 1], (1, 0), [2, 2]]
        before = copy.deepcopy(row)
        web = made_web(3, row)
        self.assertEqual(row, before)
        row[0][0] = 0
        row.append([0, 0])
        self.assertEqual(web, (3, ((0, 1), (1, 2), (2, 2))))
        bad = [[2, 1], [1, 5]]
        self.refused(1, 3, bad)
        self.assertEqual(bad, [[2, 1], [1, 5]])


class Asked(unittest.TestCase):
    def webs(self):
        return small_webs(21, 150) + large_webs(22)

    def test_ties_at(self):
        self.assertEqual(ties_at((1, ((0, 0),)), 0), 2)
        self.assertEqual(ties_at((2, ((0, 0), (0, 1), (0, 1))), 0), 4)
        self.assertEqual(ties_at((2, ((0, 0), (0, 1), (0, 1))), 1), 2)
        self.assertEqual(ties_at(bare(3), 2), 0)
        for web in self.webs():
            for place in range(web[0]):
                self.assertEqual(ties_at(web, place), sum((a == place) + (b == place) for a, b in web[1]))

    def test_near_places(self):
        self.assertEqual(near_places((3, ((0, 0), (0, 2), (1, 1), (1, 2), (1, 2))), 2), (0, 1))
        self.assertEqual(near_places((1, ((0, 0),)), 0), ())
        for web in self.webs():
            for place in range(web[0]):
                wanted = tuple(other for other in range(web[0]) if other != place and times(web, place, other))
                self.assertEqual(near_places(web, place), wanted)

    def test_tied_times(self):
        web = (3, ((0, 0), (0, 0), (0, 1), (1, 2), (1, 2), (1, 2)))
        told = [[tied_times(web, one, other) for other in range(3)] for one in range(3)]
        self.assertEqual(told, [[2, 1, 0], [1, 0, 3], [0, 3, 0]])
        for web in self.webs():
            for one in range(0, web[0], 3):
                for other in range(web[0]):
                    self.assertEqual(tied_times(web, one, other), times(web, one, other))
                    self.assertEqual(tied_times(web, other, one), times(web, one, other))

    def test_ties_within(self):
        for web in small_webs(23, 100, 5):
            for places in all_sets(web[0]):
                wanted = sum(1 for a, b in web[1] if a in places and b in places)
                self.assertEqual(ties_within(web, places), wanted)
        rng = random.Random(24)
        for web in large_webs(25):
            self.assertEqual(ties_within(web, ()), 0)
            self.assertEqual(ties_within(web, tuple(range(web[0]))), len(web[1]))
            for size in (1, 2, 13, 39):
                places = drawn_set(rng, 40, size)
                wanted = sum(1 for a, b in web[1] if a in places and b in places)
                self.assertEqual(ties_within(web, places), wanted)

    def test_hanging_parts(self):
        self.assertEqual(hanging_parts(bare(0)), [])
        self.assertEqual(hanging_parts(bare(3)), [(0,), (1,), (2,)])
        self.assertEqual(hanging_parts(plain_web(5, [(0, 4), (1, 3), (2, 2)])), [(0, 4), (1, 3), (2,)])
        self.assertEqual(hanging_parts(bare(40)), [(place,) for place in range(40)])
        for web in self.webs():
            parts = hanging_parts(web)
            self.assertIs(type(parts), list)
            self.assertEqual(parts, plain_parts(web))

    def test_spare_ties(self):
        self.assertEqual(spare_ties(bare(0)), 0)
        self.assertEqual(spare_ties(bare(40)), 0)
        self.assertEqual(spare_ties((1, ((0, 0),) * 200)), 200)
        self.assertEqual(spare_ties(joined(circle(20), circle(20))), 2)
        self.assertEqual(spare_ties(joined(whole_web(20), bare(20))), 171)
        for web in self.webs():
            self.assertEqual(spare_ties(web), len(web[1]) - web[0] + len(plain_parts(web)))
            self.assertEqual(spare_ties(web) == 0, plain_clears(web, ()))

    def test_told_lists_are_the_askers_own(self):
        web = plain_web(5, [(0, 4), (1, 3), (2, 2)])
        told = hanging_parts(web)
        told.append((7,))
        told[0] = None
        self.assertEqual(hanging_parts(web), [(0, 4), (1, 3), (2,)])
        self.assertEqual(spare_ties(web), 1)


class Changed(unittest.TestCase):
    def test_cut_web(self):
        web = plain_web(4, [(0, 0), (0, 1), (1, 2), (1, 2), (2, 3), (3, 3)])
        self.assertEqual(cut_web(web, ()), web)
        self.assertEqual(cut_web(web, (1,)), (4, ((0, 0), (2, 3), (3, 3))))
        self.assertEqual(cut_web(web, (0, 3)), (4, ((1, 2), (1, 2))))
        self.assertEqual(cut_web(web, (0, 1, 2, 3)), (4, ()))
        rng = random.Random(31)
        for web in small_webs(32, 100) + large_webs(33):
            for k in range(5):
                places = drawn_set(rng, web[0], rng.randrange(web[0] + 1))
                self.assertEqual(cut_web(web, places), plain_cut(web, places))

    def test_renamed_web(self):
        web = (3, ((0, 0), (0, 1), (1, 2), (1, 2)))
        self.assertEqual(renamed_web(web, [2, 0, 1]), (3, ((0, 1), (0, 1), (0, 2), (2, 2))))
        self.assertEqual(renamed_web(web, (0, 1, 2)), web)
        self.assertEqual(renamed_web(bare(0), []), bare(0))
        rng = random.Random(34)
        for web in small_webs(35, 100) + large_webs(36):
            order = list(range(web[0]))
            rng.shuffle(order)
            wanted = plain_web(web[0], [(order[a], order[b]) for a, b in web[1]])
            kept = list(order)
            self.assertEqual(renamed_web(web, order), wanted)
            self.assertEqual(order, kept)
            self.assertEqual(renamed_web(web, tuple(order)), wanted)

    def test_side_by_side(self):
        one = (2, ((0, 0), (0, 1)))
        other = (3, ((0, 2), (1, 1), (1, 2)))
        self.assertEqual(side_by_side(one, other), (5, ((0, 0), (0, 1), (2, 4), (3, 3), (3, 4))))
        self.assertEqual(side_by_side(other, one), (5, ((0, 2), (1, 1), (1, 2), (3, 3), (3, 4))))
        self.assertEqual(side_by_side(bare(0), one), one)
        self.assertEqual(side_by_side(one, bare(0)), one)
        self.assertEqual(side_by_side(bare(0), bare(0)), bare(0))
        rng = random.Random(37)
        for k in range(60):
            many = rng.randrange(1, 40)
            one = drawn_web(rng, many, rng.randrange(101))
            other = drawn_web(rng, 40 - many, rng.randrange(101))
            self.assertEqual(side_by_side(one, other), joined(one, other))

    def test_put_tie(self):
        web = (3, ((0, 1), (1, 2)))
        self.assertEqual(put_tie(web, 2, 0), (3, ((0, 1), (0, 2), (1, 2))))
        self.assertEqual(put_tie(web, 0, 2), (3, ((0, 1), (0, 2), (1, 2))))
        self.assertEqual(put_tie(web, 1, 0), (3, ((0, 1), (0, 1), (1, 2))))
        self.assertEqual(put_tie(web, 1, 1), (3, ((0, 1), (1, 1), (1, 2))))
        self.assertEqual(web, (3, ((0, 1), (1, 2))))

    def test_put_tie_too_many(self):
        web = (40, ((3, 5),) * 199)
        full = put_tie(web, 5, 2)
        self.assertEqual(full, (40, ((2, 5),) + ((3, 5),) * 199))
        for one, other in ((0, 1), (5, 3), (7, 7)):
            with self.assertRaises(TooMany):
                put_tie(full, one, other)

    def test_less_tie(self):
        web = (3, ((0, 0), (0, 1), (0, 1), (1, 2)))
        self.assertEqual(less_tie(web, 0, 1), (3, ((0, 0), (0, 1), (1, 2))))
        self.assertEqual(less_tie(web, 1, 0), (3, ((0, 0), (0, 1), (1, 2))))
        self.assertEqual(less_tie(web, 2, 1), (3, ((0, 0), (0, 1), (0, 1))))
        self.assertEqual(less_tie(web, 0, 0), (3, ((0, 1), (0, 1), (1, 2))))
        self.assertEqual(less_tie((2, ((0, 1),) * 200), 0, 1), (2, ((0, 1),) * 199))

    def test_less_tie_where_there_is_none(self):
        web = (3, ((0, 0), (0, 1), (0, 1), (1, 2)))
        for one, other in ((0, 2), (2, 0), (1, 1), (2, 2)):
            with self.assertRaises(NoTie):
                less_tie(web, one, other)
        with self.assertRaises(NoTie):
            less_tie(bare(1), 0, 0)

    def test_put_and_less_are_one_anothers_way_back(self):
        rng = random.Random(38)
        for web in small_webs(39, 60):
            if web[0]:
                one, other = rng.randrange(web[0]), rng.randrange(web[0])
                more = put_tie(web, one, other)
                self.assertEqual(more, plain_web(web[0], web[1] + ((one, other),)))
                self.assertEqual(less_tie(more, other, one), web)


class Named(unittest.TestCase):
    def test_arguments_by_their_names(self):
        web = (3, ((0, 0), (0, 1), (0, 1), (1, 2)))
        self.assertEqual(made_web(ties=[[1, 0]], many=2), (2, ((0, 1),)))
        self.assertEqual(ties_at(place=0, web=web), 4)
        self.assertEqual(near_places(place=1, web=web), (0, 2))
        self.assertEqual(tied_times(other=0, one=1, web=web), 2)
        self.assertEqual(ties_within(places=(0, 1), web=web), 3)
        self.assertEqual(cut_web(places=(0,), web=web), (3, ((1, 2),)))
        self.assertEqual(renamed_web(order=[1, 0, 2], web=web), (3, ((0, 1), (0, 1), (0, 2), (1, 1))))
        self.assertEqual(side_by_side(other=bare(1), one=web), (4, web[1]))
        self.assertEqual(side_by_side(one=bare(1), other=(1, ((0, 0),))), (2, ((1, 1),)))
        self.assertEqual(put_tie(other=0, one=2, web=bare(3)), (3, ((0, 2),)))
        self.assertEqual(less_tie(other=1, one=2, web=web), (3, ((0, 0), (0, 1), (0, 1))))
        self.assertEqual(hanging_parts(web=web), [(0, 1, 2)])
        self.assertEqual(spare_ties(web=web), 2)


if __name__ == "__main__":
    unittest.main()
