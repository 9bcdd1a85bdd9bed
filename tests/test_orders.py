"""12.1 and 12.3: orders, the arrows that go back, tables over sets, and 0.2, 0.3 as far as they speak of them."""

import copy
import random
import unittest
from itertools import combinations, permutations

from ringfell.errors import TooMany
from ringfell.orders import back_arrows, back_weight, least_order, table_shows
from tests.helpers import FAR, soon
from tests.ways import circled, drawn_oneway, large_oneways, oneway, small_oneways, whole_oneway


def plain_back(web, order):
    """12.1, word by word."""
    order = list(order)
    return tuple((a, b) for a, b in web[1] if not order.index(b) > order.index(a))


def plain_weight(web, worths, order):
    back = plain_back(web, order)
    return sum(worth for arrow, worth in zip(web[1], worths) if arrow in back)


def plain_least(web, worths):
    """The least weight of all orders, and the first order that has it."""
    return min((plain_weight(web, worths, order), list(order)) for order in permutations(range(web[0])))


def plain_table(web, worths):
    """12.3, row by row: of the orders in which these places stand first, the least weight on them."""
    worth = dict(zip(web[1], worths))
    rows = {(): sum(worth[(a, b)] for a, b in web[1] if a == b)}
    for size in range(1, web[0] + 1):
        for places in combinations(range(web[0]), size):
            sums = []
            for p in places:
                rest = tuple(q for q in places if q != p)
                sums.append(rows[rest] + sum(worth.get((p, q), 0) for q in rest))
            rows[places] = min(sums)
    return sorted(rows.items())


def drawn_worths(rng, web):
    count = len(web[1])
    sort = rng.randrange(4)
    if sort == 0:
        return [1] * count
    if sort == 1:
        return [rng.randrange(3) for k in range(count)]
    if sort == 2:
        return [rng.choice((0, 10 ** 60, 10 ** 60 - 1, rng.randrange(10 ** 60))) for k in range(count)]
    return [rng.randrange(10 ** 59, 10 ** 60) for k in range(count)]


class Back(unittest.TestCase):
    def held(self, web, worths, order):
        handed = list(order)
        told = back_arrows(web, handed)
        self.assertIs(type(told), tuple)
        self.assertEqual(told, plain_back(web, order))
        self.assertEqual(told, tuple(sorted(told)))
        weight = back_weight(web, worths, handed)
        self.assertIs(type(weight), int)
        self.assertEqual(weight, plain_weight(web, worths, order))
        self.assertEqual(handed, list(order))
        self.assertEqual(back_arrows(web, tuple(order)), told)
        self.assertEqual(back_weight(web, tuple(worths), tuple(order)), weight)

    def test_all_orders_of_small_webs(self):
        rng = random.Random(1501)
        for web in small_oneways(1502, 60, 4):
            worths = drawn_worths(rng, web)
            for order in permutations(range(web[0])):
                self.held(web, worths, order)

    def test_large_webs(self):
        rng = random.Random(1503)
        for web in large_oneways(1504):
            for k in range(5):
                self.held(web, drawn_worths(rng, web), rng.sample(range(web[0]), web[0]))

    def test_named_webs(self):
        self.assertEqual(back_arrows((0, ()), []), ())
        self.assertEqual(back_weight((0, ()), [], ()), 0)
        web = oneway(3, [(0, 0), (0, 1), (1, 0), (1, 2), (2, 0)])
        self.assertEqual(back_arrows(web, [0, 1, 2]), ((0, 0), (1, 0), (2, 0)))
        self.assertEqual(back_arrows(web, (2, 1, 0)), ((0, 0), (0, 1), (1, 2)))
        self.assertEqual(back_weight(web, [1, 10, 100, 1000, 10 ** 60], [0, 1, 2]), 10 ** 60 + 101)
        self.assertEqual(back_weight(web, (0,) * 5, (0, 1, 2)), 0)
        self.assertEqual(back_weight(web, (10 ** 60,) * 5, (2, 1, 0)), 3 * 10 ** 60)
        row = oneway(40, [(place, place + 1) for place in range(39)])
        self.assertEqual(back_arrows(row, list(range(40))), ())
        self.assertEqual(back_arrows(row, list(range(39, -1, -1))), row[1])


class Least(unittest.TestCase):
    def held(self, web, worths):
        before = copy.deepcopy(worths)
        told = least_order(web, worths)
        self.assertEqual(worths, before)
        self.assertIs(type(told), tuple)
        self.assertEqual([type(part) for part in told], [int, list, list])
        self.assertTrue(all(type(row) is tuple and type(row[0]) is tuple and type(row[1]) is int for row in told[2]))
        self.assertEqual(told[:2], plain_least(web, worths))
        self.assertEqual(told[2], plain_table(web, worths))
        self.assertEqual(least_order(web, tuple(worths)), told)
        self.assertIs(table_shows(web, worths, told[0], told[2]), True)
        return told

    def test_against_all_orders_of_small_webs(self):
        rng = random.Random(1511)
        for web in small_oneways(1512, 150):
            self.held(web, drawn_worths(rng, web))
            self.held(web, [1] * len(web[1]))

    def test_six_and_seven_places(self):
        rng = random.Random(1513)
        for many, count in ((6, 8), (6, 14), (6, 25), (6, 36), (7, 10), (7, 20), (7, 49)):
            web = drawn_oneway(rng, many, count)
            with soon():
                self.held(web, drawn_worths(rng, web))

    def test_named_webs(self):
        self.assertEqual(self.held((0, ()), []), (0, [], [((), 0)]))
        self.assertEqual(self.held((1, ((0, 0),)), [7]), (7, [0], [((), 7), ((0,), 7)]))
        self.assertEqual(self.held((2, ((0, 1), (1, 0))), [3, 2]),
                         (2, [0, 1], [((), 0), ((0,), 0), ((0, 1), 2), ((1,), 0)]))
        self.assertEqual(self.held((2, ((0, 1), (1, 0))), [2, 3])[:2], (2, [1, 0]))
        self.assertEqual(self.held(circled(7), [1] * 7)[:2], (1, [0, 1, 2, 3, 4, 5, 6]))
        self.assertEqual(self.held((7, ()), [])[:2], (0, [0, 1, 2, 3, 4, 5, 6]))
        self.assertEqual(self.held(whole_oneway(7), [1] * 42)[:2], (21, [0, 1, 2, 3, 4, 5, 6]))
        self.assertEqual(len(least_order(whole_oneway(7), [1] * 42)[2]), 128)

    def test_the_first_of_several(self):
        # Only 2 must stand ahead of 0, so 1 comes first.
        self.assertEqual(self.held(oneway(3, [(2, 0)]), [5])[:2], (0, [1, 2, 0]))
        self.assertEqual(self.held(oneway(3, [(2, 0)]), [0])[:2], (0, [0, 1, 2]))
        self.assertEqual(self.held(oneway(3, [(2, 0), (0, 2)]), [4, 4])[:2], (4, [0, 1, 2]))

    def test_eight_places_and_more(self):
        for many in (8, 9, 20, 40):
            for web in ((many, ()), circled(many)):
                with self.assertRaises(TooMany):
                    least_order(web, [1] * len(web[1]))
                with self.assertRaises(TooMany):
                    table_shows(web, [1] * len(web[1]), 0, [])

    def test_told_lists_are_the_askers_own(self):
        worths = [1, 2, 3]
        told = least_order(circled(3), worths)
        kept = copy.deepcopy(told)
        told[1].reverse()
        told[2].clear()
        self.assertEqual(least_order(circled(3), worths), kept)
        self.assertIs(table_shows(circled(3), worths, kept[0], kept[2]), True)


class Shows(unittest.TestCase):
    def held(self, wanted, web, worths, weight, table):
        before = copy.deepcopy(table)
        self.assertIs(table_shows(web, worths, weight, table), wanted)
        self.assertEqual(table, before)
        self.assertIs(table_shows(web, tuple(worths), weight, tuple(table)), wanted)

    def cases(self, seed, count):
        rng = random.Random(seed)
        for web in small_oneways(seed, count, 4):
            worths = drawn_worths(rng, web)
            yield rng, web, worths, plain_least(web, worths)[0], plain_table(web, worths)

    def test_told_tables(self):
        for rng, web, worths, weight, table in self.cases(1521, 100):
            self.held(True, web, worths, weight, table)
            for other in (weight + 1, weight - 1, -weight - 1, weight + FAR, 10 ** 70):
                self.held(False, web, worths, other, table)

    def test_rows_left_out_twice_and_elsewhere(self):
        for rng, web, worths, weight, table in self.cases(1522, 60):
            for at in range(len(table)):
                self.held(False, web, worths, weight, table[:at] + table[at + 1:])
                self.held(False, web, worths, weight, table[:at + 1] + table[at:])
                for other in range(at):
                    row = list(table)
                    row[at], row[other] = row[other], row[at]
                    self.held(False, web, worths, weight, row)
            self.held(False, web, worths, weight, [])
            if len(table) > 1:
                self.held(False, web, worths, weight, table[::-1])

    def test_rows_of_another_set_and_of_another_weight(self):
        for rng, web, worths, weight, table in self.cases(1523, 60):
            for at, (places, least) in enumerate(table):
                for other in (least + 1, least - 1, -least - 1, least + FAR, -FAR, least + 10 ** 80):
                    self.held(False, web, worths, weight, table[:at] + [(places, other)] + table[at + 1:])
                wrong = [places + (web[0],), places + (-1,), places + (FAR,), (-FAR,) + places, places + places[:1]]
                wrong += [places[::-1]] if len(places) > 1 else []
                wrong += [places[1:]] if places else [(0,)]
                for other in wrong:
                    if other != places:
                        self.held(False, web, worths, weight, table[:at] + [(other, least)] + table[at + 1:])
                        self.held(False, web, worths, weight, table + [(other, least)])

    def test_all_weights_greater(self):
        for rng, web, worths, weight, table in self.cases(1524, 40):
            self.held(False, web, worths, weight + 1, [(places, least + 1) for places, least in table])

    def test_tables_of_other_webs(self):
        for rng, web, worths, weight, table in self.cases(1525, 80):
            other = drawn_worths(rng, web)
            self.held(plain_table(web, other) == table, web, other, weight, table)
            if web[1]:
                at = rng.randrange(len(web[1]))
                less = (web[0], web[1][:at] + web[1][at + 1:])
                fewer = worths[:at] + worths[at + 1:]
                self.held(plain_table(less, fewer) == table, less, fewer, weight, table)

    def test_rows_as_lists_and_as_tuples(self):
        web = circled(3)
        told = least_order(web, [1, 2, 3])
        rows = [[places, least] for places, least in told[2]]
        self.assertIs(table_shows(web, [1, 2, 3], told[0], rows), True)
        self.assertIs(table_shows(web, [1, 2, 3], told[0], tuple(told[2])), True)
        self.assertIs(table_shows(web, [1, 2, 3], told[0] + 1, rows), False)


class Named(unittest.TestCase):
    def test_arguments_by_their_names(self):
        web = circled(3)
        self.assertEqual(back_arrows(order=[0, 1, 2], web=web), ((2, 0),))
        self.assertEqual(back_weight(order=(0, 1, 2), worths=[1, 2, 3], web=web), 3)
        told = least_order(worths=[1, 2, 3], web=web)
        self.assertEqual(told[:2], (1, [1, 2, 0]))
        self.assertIs(table_shows(table=told[2], weight=1, worths=[1, 2, 3], web=web), True)


if __name__ == "__main__":
    unittest.main()
