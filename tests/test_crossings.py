"""9.4, 9.5: sets that cross others, bare sets, and 0.2, 0.4 as far as they speak of them."""

import copy
import random
import unittest
from itertools import combinations

from ringfell.crossings import bare_rings, crossed_sets
from ringfell.errors import TooMany
from ringfell.leastsets import least_sets
from ringfell.rings import all_rings
from tests.helpers import (bare, circle, drawn_plain, drawn_set, drawn_web, joined, looped, plain_rings, plain_web,
                           small_webs, soon, theta, times, whole_web)


def plain_crossed(sets):
    """By a search through all sets of the numbers in them."""
    numbers = sorted({number for places in sets for number in places})
    found = []
    for size in range(len(numbers) + 1):
        for row in combinations(numbers, size):
            if all(set(row) & set(places) for places in sets):
                if not any(set(other) <= set(row) for other in found):
                    found.append(row)
    return sorted(found)


def plain_counts(sets):
    """How many least sets cross each beginning of the list, up to the first that has more than 200."""
    crossing = {frozenset()}
    counts = []
    for places in sets:
        further = {one | {place} for one in crossing for place in places}
        further = sorted(further, key=len)
        crossing = []
        for one in further:
            if not any(other <= one for other in crossing):
                crossing.append(one)
        counts.append(len(crossing))
        if counts[-1] > 200:
            break
    return counts


def plain_bare(web):
    """Of all rings' places those within which no other ring's places lie."""
    rows = {tuple(sorted(ring)) for ring in plain_rings(web)}
    return sorted(row for row in rows if not any(set(other) < set(row) for other in rows))


def rows_of(*sizes):
    """Sets of these sizes without a common number: as many cross them as the sizes' product."""
    first = 0
    sets = []
    for size in sizes:
        sets.append(tuple(range(first, first + size)))
        first += size
    return sets


def with_number(sets, number):
    return [tuple(sorted(places + (number,))) for places in sets]


def drawn_sets(rng, most):
    numbers = drawn_set(rng, 40, rng.randrange(1, most + 1))
    count = rng.choice((1, 2, 3, 5, 8, 13))
    sets = [tuple(sorted(rng.sample(numbers, rng.randrange(1, min(9, len(numbers)) + 1)))) for k in range(count)]
    if rng.random() < 0.3:
        sets.append(rng.choice(sets))
    return sets


class Crossed(unittest.TestCase):
    def told(self, sets):
        before = copy.deepcopy(sets)
        told = crossed_sets(sets)
        self.assertEqual(sets, before)
        self.assertEqual(crossed_sets(tuple(sets)), told)
        self.assertIs(type(told), list)
        self.assertTrue(all(type(places) is tuple for places in told))
        return told

    def test_against_a_search(self):
        rng = random.Random(941)
        for k in range(250):
            sets = drawn_sets(rng, 8)
            wanted = plain_crossed(sets)
            self.assertEqual(self.told(sets), wanted)
            rng.shuffle(sets)
            self.assertEqual(self.told(sets), wanted)

    def test_all_sets_of_pairs_and_triples(self):
        for size in (2, 3):
            rows = list(combinations(range(5), size))
            rng = random.Random(942)
            for k in range(60):
                sets = rng.sample(rows, rng.randrange(1, len(rows) + 1))
                self.assertEqual(self.told(sets), plain_crossed(sets))

    def test_edges(self):
        self.assertEqual(self.told([]), [()])
        self.assertEqual(self.told([()]), [])
        self.assertEqual(self.told([(), ()]), [])
        self.assertEqual(self.told([(1, 2), ()]), [])
        self.assertEqual(self.told([(), (1, 2)]), [])
        self.assertEqual(self.told([(1, 2), (), (3,)]), [])
        self.assertEqual(self.told([(39,)]), [(39,)])
        self.assertEqual(self.told([(0, 39)]), [(0,), (39,)])
        self.assertEqual(self.told([(0, 39), (0, 39)]), [(0,), (39,)])
        self.assertEqual(self.told([tuple(range(31, 40))]), [(place,) for place in range(31, 40)])

    def test_the_same_set_and_a_greater_one_change_nothing(self):
        rng = random.Random(943)
        for k in range(60):
            sets = drawn_sets(rng, 8)
            wanted = self.told(sets)
            self.assertEqual(self.told(sets + sets), wanted)
            wider = tuple(sorted(set(rng.choice(sets)) | {rng.randrange(40)}))
            at = rng.randrange(len(sets) + 1)
            self.assertEqual(self.told(sets[:at] + [wider] + sets[at:]), wanted)

    def test_crossings_of_crossings(self):
        # What crosses what crosses: the least ones of the sets themselves.
        rng = random.Random(944)
        for k in range(60):
            sets = drawn_sets(rng, 7)
            least = sorted({one for one in sets if not any(set(other) < set(one) for other in sets)})
            self.assertEqual(self.told(self.told(sets)), least)

    def test_forty_numbers(self):
        self.assertEqual(self.told([(place,) for place in range(40)]), [tuple(range(40))])
        sets = [(place, place + 1) for place in range(0, 14, 2)]
        self.assertEqual(len(self.told(sets)), 128)
        self.assertEqual(len(self.told(sets + [(place,) for place in range(14, 40)])), 128)

    def test_told_lists_are_the_askers_own(self):
        told = crossed_sets([(1, 2)])
        told.append(None)
        self.assertEqual(crossed_sets([(1, 2)]), [(1,), (2,)])
        self.assertEqual(crossed_sets([]), [()])
        crossed_sets([]).append((3,))
        self.assertEqual(crossed_sets([]), [()])


class Refused(unittest.TestCase):
    def too_many(self, sets):
        with soon(), self.assertRaises(TooMany):
            crossed_sets(sets)

    def test_just_two_hundred_and_one_more(self):
        for sizes in ((5, 5, 8), (8, 5, 5), (2, 2, 2, 5, 5), (4, 5, 2, 5)):
            sets = rows_of(*sizes)
            self.assertEqual(len(crossed_sets(sets)), 200)
            # The further number crosses all of them by itself.
            self.too_many(with_number(sets, 39))
        self.assertEqual(len(crossed_sets(with_number(rows_of(5, 8, 4), 39))), 161)
        self.too_many(rows_of(9, 9, 3))
        self.too_many(rows_of(2, 2, 2, 2, 2, 2, 2, 2))
        self.assertEqual(len(crossed_sets(rows_of(2, 2, 2, 2, 2, 2, 2))), 128)

    def test_of_a_beginning_of_the_list(self):
        many = with_number(rows_of(5, 5, 8), 39)
        # The whole list has one that crosses, or none, but its first three have 201.
        self.too_many(many + [(39,)])
        self.too_many(many + [()])
        self.too_many(many[::-1] + [(39,), (0,)])
        self.assertEqual(crossed_sets([(39,)] + many), [(39,)])
        self.assertEqual(crossed_sets([()] + many), [])
        self.assertEqual(crossed_sets(many[:2] + [(39,)] + many[2:]), [(39,)])
        self.assertEqual(crossed_sets(many[:2] + [()] + many[2:]), [])

    def test_two_hundred_on_the_way(self):
        sets = rows_of(5, 5, 8)
        self.assertEqual(crossed_sets(sets + [()]), [])
        self.assertEqual(crossed_sets(sets + [(0,), (5,), (10,)]), [(0, 5, 10)])
        self.assertEqual(len(crossed_sets(sets + sets[:1] * 57)), 200)
        self.too_many(sets + [(18, 19)])
        self.assertEqual(len(crossed_sets(sets + [(18,)])), 200)

    def test_just_where_some_beginning_has_more(self):
        rng = random.Random(946)
        refused = []
        for k in range(60):
            numbers = rng.choice((8, 12, 16, 20, 40))
            sets = [drawn_set(rng, numbers, rng.choice((2, 3, 4))) for j in range(rng.choice((5, 8, 20)))]
            if plain_counts(sets)[-1] > 200:
                self.too_many(sets)
                refused.append(True)
            else:
                self.assertEqual(len(crossed_sets(sets)), plain_counts(sets)[-1])
                refused.append(False)
        self.assertGreater(min(refused.count(True), refused.count(False)), 5)

    def test_in_good_time(self):
        rng = random.Random(945)
        for k in range(60):
            numbers = rng.choice((9, 12, 20, 40))
            sets = [drawn_set(rng, numbers, rng.choice((2, 5, 9))) for j in range(60)]
            with soon():
                try:
                    told = crossed_sets(sets)
                except TooMany:
                    continue
            for row in told:
                self.assertTrue(all(set(row) & set(places) for places in sets))
                for number in row:
                    self.assertTrue(any(set(row) & set(places) == {number} for places in sets))
        # Many on the way that hold a lesser one aren't counted.
        sets = [(0, 1, 2, 3, 4, 5, 6, 7, place) for place in range(8, 40)]
        with soon():
            self.assertEqual(crossed_sets(sets), [(place,) for place in range(8)] + [tuple(range(8, 40))])


class Bare(unittest.TestCase):
    def told(self, web):
        told = bare_rings(web)
        self.assertEqual(bare_rings(web), told)
        self.assertIs(type(told), list)
        self.assertTrue(all(type(places) is tuple for places in told))
        return told

    def test_small_webs(self):
        for web in small_webs(951, 200):
            self.assertEqual(self.told(web), plain_bare(web))

    def test_against_all_rings(self):
        rng = random.Random(952)
        for k in range(30):
            many = rng.randrange(7, 10)
            web = rng.choice((drawn_plain, drawn_web))(rng, many, rng.randrange(many, many + 7))
            rows = {tuple(sorted(ring)) for ring in all_rings(web)}
            wanted = sorted(row for row in rows if not any(set(other) < set(row) for other in rows))
            self.assertEqual(self.told(web), wanted)

    def test_the_words_for_each_sort(self):
        for web in small_webs(953, 100):
            for places in self.told(web):
                loops = [place for place in places if times(web, place, place)]
                if len(places) == 1:
                    self.assertEqual(loops, list(places))
                elif len(places) == 2:
                    self.assertEqual(loops, [])
                    self.assertGreaterEqual(times(web, *places), 2)
                else:
                    ties = [tie for tie in web[1] if set(tie) <= set(places)]
                    self.assertEqual(len(ties), len(places))

    def test_least_sets_and_bare_sets_are_one_anothers_crossings(self):
        for web in small_webs(954, 200) + [theta(4), whole_web(6), joined(circle(3), circle(4)), bare(40)]:
            self.assertEqual(crossed_sets(bare_rings(web)), least_sets(web))
            self.assertEqual(crossed_sets(least_sets(web)), bare_rings(web))

    def test_edges(self):
        for web in (bare(0), bare(40), plain_web(4, [(0, 1), (1, 2), (2, 3)])):
            self.assertEqual(self.told(web), [])
        self.assertEqual(self.told(looped()), [(0,)])
        self.assertEqual(self.told(plain_web(3, [(0, 0), (0, 1), (0, 1), (1, 2), (1, 2)])), [(0,), (1, 2)])
        self.assertEqual(self.told(joined(bare(20), circle(5), bare(10), looped())), [(20, 21, 22, 23, 24), (35,)])
        self.assertEqual(self.told(whole_web(5)), list(combinations(range(5), 3)))
        self.assertEqual(self.told(plain_web(5, [(0, 1), (1, 2), (2, 3), (3, 4), (0, 4), (1, 3)])),
                         [(0, 1, 3, 4), (1, 2, 3)])

    def test_nine_and_ten_places_with_ties(self):
        with soon():
            self.assertEqual(self.told(joined(whole_web(9), bare(31))), list(combinations(range(9), 3)))
            self.assertEqual(self.told(joined(bare(30), circle(9))), [tuple(range(30, 39))])
            # More than three hundred rings, but few bare ones.
            self.assertEqual(len(self.told(plain_web(9, whole_web(9)[1] * 5))), 36)
        for web in (circle(10), joined(*[looped()] * 10), whole_web(10), joined(bare(30), circle(10)),
                    plain_web(40, [(place, place + 1) for place in range(9)]), whole_web(20)):
            with self.assertRaises(TooMany):
                bare_rings(web)

    def test_told_lists_are_the_askers_own(self):
        bare_rings(looped()).append(None)
        self.assertEqual(bare_rings(looped()), [(0,)])


class Named(unittest.TestCase):
    def test_arguments_by_their_names(self):
        self.assertEqual(crossed_sets(sets=[(1,)]), [(1,)])
        self.assertEqual(bare_rings(web=looped()), [(0,)])


if __name__ == "__main__":
    unittest.main()
