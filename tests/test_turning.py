"""12.2, 12.4, 12.5: arrows taken out and turned about, and 0.2, 0.3 as far as they speak of them."""

import copy
import random
import unittest
from itertools import combinations, permutations

from ringfell.errors import NotClear
from ringfell.orders import back_arrows
from ringfell.turning import arrows_clear, order_without, thinned_arrows, thinned_right, turned_about
from tests.helpers import FAR, soon
from tests.ways import (circled, drawn_oneway, few_arrows, large_oneways, oneway, plain_free, plain_gone, plain_round,
                        plain_without, rotated, small_oneways, whole_oneway)


def plain_thinned(web, rows):
    """12.4, word by word: whether rows are right."""
    arrows = [row[0] for row in rows]
    if any(one >= other for one, other in zip(arrows, arrows[1:])):
        return False
    if not plain_free(plain_without(web, arrows)):
        return False
    for arrow, row in rows:
        if not plain_round(web, row) or row[0] != min(row):
            return False
        if [other for other in plain_gone(row) if other in arrows] != [arrow]:
            return False
    return True


def arrow_sets(web):
    for size in range(len(web[1]) + 1):
        yield from combinations(web[1], size)


def drawn_arrows(rng, web, chance):
    return tuple(arrow for arrow in web[1] if rng.random() < chance)


def drawn_clearing(rng, web):
    """A set of arrows that clears: those that go back by some order, and some more."""
    order = rng.sample(range(web[0]), web[0])
    more = drawn_arrows(rng, web, rng.choice((0, 0.2)))
    return tuple(sorted(set(more) | {(a, b) for a, b in web[1] if order.index(b) <= order.index(a)}))


class Clears(unittest.TestCase):
    def test_every_set_of_small_webs(self):
        for web in few_arrows(1601, 60, 5, 8):
            for arrows in arrow_sets(web):
                self.assertIs(arrows_clear(web, arrows), plain_free(plain_without(web, arrows)))

    def test_large_webs(self):
        rng = random.Random(1602)
        for web in large_oneways(1603):
            for chance in (0, 0.3, 0.6, 0.9, 1):
                arrows = drawn_arrows(rng, web, chance)
                self.assertIs(arrows_clear(web, arrows), plain_free(plain_without(web, arrows)))
            self.assertIs(arrows_clear(web, drawn_clearing(rng, web)), True)

    def test_arrows_that_go_back_clear(self):
        for web in small_oneways(1604, 60, 4):
            for order in permutations(range(web[0])):
                self.assertIs(arrows_clear(web, back_arrows(web, order)), True)

    def test_named_webs(self):
        self.assertIs(arrows_clear((0, ()), ()), True)
        self.assertIs(arrows_clear((1, ((0, 0),)), ()), False)
        self.assertIs(arrows_clear((1, ((0, 0),)), ((0, 0),)), True)
        self.assertIs(arrows_clear(circled(40), ()), False)
        for arrow in circled(40)[1]:
            self.assertIs(arrows_clear(circled(40), (arrow,)), True)


class Turned(unittest.TestCase):
    def held(self, web, arrows):
        told = turned_about(web, arrows)
        wanted = {(b, a) if (a, b) in arrows else (a, b) for a, b in web[1]}
        self.assertEqual(told, (web[0], tuple(sorted(wanted))))
        self.assertIs(type(told), tuple)
        self.assertIs(type(told[1]), tuple)
        self.assertTrue(all(type(arrow) is tuple for arrow in told[1]))

    def test_every_set_of_small_webs(self):
        for web in few_arrows(1611, 60, 5, 8):
            for arrows in arrow_sets(web):
                self.held(web, arrows)

    def test_large_webs(self):
        rng = random.Random(1612)
        for web in large_oneways(1613):
            for chance in (0, 0.3, 1):
                self.held(web, drawn_arrows(rng, web, chance))

    def test_both_arrows_between_two_places(self):
        both = (2, ((0, 1), (1, 0)))
        self.assertEqual(turned_about(both, ((0, 1),)), (2, ((1, 0),)))
        self.assertEqual(turned_about(both, ((1, 0),)), (2, ((0, 1),)))
        self.assertEqual(turned_about(both, ((0, 1), (1, 0))), both)
        self.assertEqual(turned_about(both, ()), both)
        self.assertEqual(turned_about((1, ((0, 0),)), ((0, 0),)), (1, ((0, 0),)))
        self.assertEqual(turned_about(circled(3), ((0, 1),)), (3, ((1, 0), (1, 2), (2, 0))))

    def test_of_a_thinned_set_without_loops_no_round_is_left(self):
        rng = random.Random(1614)
        for k in range(150):
            many = rng.choice((3, 4, 5, 6, 12, 40))
            web = drawn_oneway(rng, many, rng.randrange(min(many * (many - 1), 200) + 1), False)
            arrows = tuple(row[0] for row in thinned_arrows(web, drawn_clearing(rng, web)))
            self.assertTrue(plain_free(turned_about(web, arrows)))


class Ordered(unittest.TestCase):
    def held(self, web, arrows):
        rest = plain_without(web, arrows)
        if not plain_free(rest):
            with self.assertRaises(NotClear):
                order_without(web, arrows)
            return
        told = order_without(web, arrows)
        self.assertIs(type(told), list)
        self.assertEqual(sorted(told), list(range(web[0])))
        back = [(a, b) for a, b in web[1] if told.index(b) <= told.index(a)]
        self.assertLessEqual(set(back), set(arrows))
        if web[0] <= 5:
            orders = (list(order) for order in permutations(range(web[0])))
            first = next(order for order in orders
                         if all(order.index(a) < order.index(b) for a, b in rest[1]))
            self.assertEqual(told, first)

    def test_the_first_order_of_small_webs(self):
        for web in few_arrows(1621, 60, 5, 6):
            for arrows in arrow_sets(web):
                self.held(web, arrows)

    def test_large_webs(self):
        rng = random.Random(1622)
        for web in large_oneways(1623):
            for arrows in (drawn_clearing(rng, web), web[1], (), drawn_arrows(rng, web, 0.5)):
                with soon():
                    self.held(web, arrows)

    def test_named_webs(self):
        self.assertEqual(order_without((0, ()), ()), [])
        self.assertEqual(order_without(circled(4), ((1, 2),)), [2, 3, 0, 1])
        self.assertEqual(order_without(circled(4), circled(4)[1]), [0, 1, 2, 3])
        self.assertEqual(order_without((1, ((0, 0),)), ((0, 0),)), [0])
        with self.assertRaises(NotClear):
            order_without((1, ((0, 0),)), ())
        with self.assertRaises(NotClear):
            order_without(circled(4), ())

    def test_told_lists_are_the_askers_own(self):
        told = order_without((3, ()), ())
        told.reverse()
        self.assertEqual(order_without((3, ()), ()), [0, 1, 2])


class Thinned(unittest.TestCase):
    def held(self, web, arrows):
        if not plain_free(plain_without(web, arrows)):
            with self.assertRaises(NotClear):
                thinned_arrows(web, arrows)
            return []
        told = thinned_arrows(web, arrows)
        self.assertIs(type(told), list)
        self.assertTrue(all(type(row) is tuple and [type(part) for part in row] == [tuple] * 2 for row in told))
        self.assertLessEqual({row[0] for row in told}, set(arrows))
        self.assertTrue(plain_thinned(web, told))
        self.assertIs(thinned_right(web, told), True)
        self.assertEqual(thinned_arrows(web, arrows), told)
        return told

    def test_every_set_of_small_webs(self):
        for web in few_arrows(1631, 60, 5, 8):
            for arrows in arrow_sets(web):
                told = self.held(web, arrows)
                for row in told:
                    # No arrow can be left out.
                    others = [other[0] for other in told if other != row]
                    self.assertFalse(plain_free(plain_without(web, others)))

    def test_large_webs(self):
        rng = random.Random(1632)
        for web in large_oneways(1633):
            for arrows in (drawn_clearing(rng, web), drawn_clearing(rng, web), web[1], ()):
                with soon():
                    self.held(web, arrows)

    def test_named_webs(self):
        self.assertEqual(thinned_arrows((0, ()), ()), [])
        self.assertEqual(thinned_arrows((1, ((0, 0),)), ((0, 0),)), [((0, 0), (0,))])
        self.assertEqual(thinned_arrows(circled(3), ((1, 2),)), [((1, 2), (0, 1, 2))])
        self.assertEqual(thinned_arrows(oneway(3, [(0, 1), (1, 2)]), ((0, 1), (1, 2))), [])
        self.assertEqual(len(self.held(whole_oneway(5), whole_oneway(5)[1])), 10)

    def test_told_lists_are_the_askers_own(self):
        told = thinned_arrows(circled(3), ((1, 2),))
        told.append(None)
        self.assertEqual(thinned_arrows(circled(3), ((1, 2),)), [((1, 2), (0, 1, 2))])


class Right(unittest.TestCase):
    def both(self, web, rows):
        before = copy.deepcopy(rows)
        told = thinned_right(web, rows)
        self.assertIs(told, plain_thinned(web, rows))
        self.assertIs(thinned_right(web, tuple(rows)), told)
        self.assertEqual(rows, before)
        return told

    def test_rows_with_one_thing_changed(self):
        rng = random.Random(1641)
        wrong = 0
        for web in small_oneways(1642, 100):
            rows = thinned_arrows(web, drawn_clearing(rng, web))
            self.assertTrue(self.both(web, rows))
            numbers = list(range(-1, web[0] + 2)) + [FAR, -FAR]
            changed = []
            for at, (arrow, row) in enumerate(rows):
                changed.append(rows[:at] + rows[at + 1:])
                changed.append(rows[:at + 1] + rows[at:])
                changed += [rows[:at] + [(arrow, turn)] + rows[at + 1:] for turn in rotated(row)]
                changed.append(rows[:at] + [(arrow, row[::-1])] + rows[at + 1:])
                changed.append(rows[:at] + [(arrow, row + row[:1])] + rows[at + 1:])
                changed.append(rows[:at] + [(arrow, ())] + rows[at + 1:])
                changed.append(rows[:at] + [(arrow[::-1], row)] + rows[at + 1:])
                for number in numbers:
                    changed.append(rows[:at] + [((number, arrow[1]), row)] + rows[at + 1:])
                    changed.append(rows[:at] + [((arrow[0], number), row)] + rows[at + 1:])
                    place = rng.randrange(len(row))
                    other = row[:place] + (number,) + row[place + 1:]
                    changed.append(rows[:at] + [(arrow, other)] + rows[at + 1:])
                for other in web[1]:
                    changed.append(sorted(rows[:at] + [(other, row)] + rows[at + 1:]))
            for arrow in web[1]:
                changed.append(sorted(rows + [(arrow, rotated(arrow)[0])]))
            changed.append(rows[::-1])
            for rows in changed:
                wrong += not self.both(web, rows)
        self.assertGreater(wrong, 1000)

    def test_named_rows(self):
        web = oneway(4, [(0, 1), (1, 0), (1, 2), (2, 0), (3, 3)])
        self.assertTrue(self.both(web, [((0, 1), (0, 1)), ((3, 3), (3,))]))
        self.assertTrue(self.both(web, [((0, 1), (0, 1, 2)), ((3, 3), (3,))]))
        self.assertTrue(self.both(web, [((1, 0), (0, 1)), ((1, 2), (0, 1, 2)), ((3, 3), (3,))]))
        self.assertFalse(self.both(web, [((3, 3), (3,)), ((0, 1), (0, 1))]))
        self.assertFalse(self.both(web, [((0, 1), (1, 0)), ((3, 3), (3,))]))
        self.assertFalse(self.both(web, [((0, 1), (1, 2, 0)), ((3, 3), (3,))]))
        self.assertFalse(self.both(web, [((0, 1), (0, 1))]))
        self.assertFalse(self.both(web, [((0, 1), (0, 1)), ((1, 2), (0, 1, 2)), ((3, 3), (3,))]))
        self.assertFalse(self.both(web, [((0, 1), (0, 1)), ((0, 1), (0, 1, 2)), ((3, 3), (3,))]))
        self.assertFalse(self.both(web, []))
        self.assertTrue(self.both((0, ()), []))
        self.assertTrue(self.both(oneway(3, [(0, 1), (1, 2)]), []))
        self.assertFalse(self.both(oneway(3, [(0, 1), (1, 2)]), [((0, 1), (0, 1))]))
        self.assertFalse(self.both(oneway(3, [(0, 1), (1, 2)]), [((0, 2), (0, 2))]))

    def test_rows_as_lists_and_as_tuples(self):
        web = oneway(4, [(0, 1), (1, 0), (3, 3)])
        self.assertIs(thinned_right(web, [[(0, 1), (0, 1)], [(3, 3), (3,)]]), True)
        self.assertIs(thinned_right(web, (((0, 1), (0, 1)), ((3, 3), (3,)))), True)


class Named(unittest.TestCase):
    def test_arguments_by_their_names(self):
        web = circled(3)
        self.assertIs(arrows_clear(arrows=((0, 1),), web=web), True)
        self.assertEqual(turned_about(arrows=((0, 1),), web=web), (3, ((1, 0), (1, 2), (2, 0))))
        rows = thinned_arrows(arrows=((0, 1),), web=web)
        self.assertIs(thinned_right(rows=rows, web=web), True)
        self.assertEqual(order_without(arrows=((0, 1),), web=web), [1, 2, 0])


if __name__ == "__main__":
    unittest.main()
