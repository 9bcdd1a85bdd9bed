"""6.2, 6.3: what trees of cases show, and 0.2, 0.3 as far as they speak of them."""

import copy
import random
import unittest

from ringfell.casejudge import tree_shows
from tests.helpers import (FAR, all_sets, bare, circle, joined, looped, plain_clears, plain_web, small_webs, soon,
                           theta, turned, whole_web)
from tests.trees import (all_leaves, count_trees, drawn_case, drawn_change, plain_shows, weigh)

NEVER = ("never",)
FARS = (FAR, -FAR, 10 ** 60 - 1, 1 - 10 ** 60)


class Judged(unittest.TestCase):
    def shows(self, web, weights, kept, tree):
        """What is told, whatever the lists are, and with nothing changed."""
        before = copy.deepcopy((weights, tree))
        told = tree_shows(web, weights, kept, tree)
        self.assertEqual((weights, tree), before)
        self.assertEqual(tree_shows(web, tuple(weights), kept, tree), told)
        self.assertEqual(tree_shows(web, list(weights), kept, tree), told)
        if told is not None:
            self.assertIs(type(told), tuple)
            self.assertIs(type(told[0]), str)
            if told != NEVER:
                self.assertEqual(len(told), 2)
                self.assertEqual(told[0], "least")
                self.assertIs(type(told[1]), int)
        return told

    def none(self, web, weights, kept, tree):
        self.assertIsNone(self.shows(web, weights, kept, tree))


class Rings(Judged):
    def test_kept_rings_from_any_place_on_either_way(self):
        webs = [(looped(), (0,)), (plain_web(2, [(0, 1)] * 2), (0, 1)), (circle(3), (0, 1, 2)),
                (whole_web(5), (1, 3, 0, 4)), (circle(7), (0, 1, 2, 3, 4, 5, 6))]
        for web, ring in webs:
            kept = tuple(sorted(ring))
            for way in turned(ring):
                self.assertEqual(self.shows(web, [1] * web[0], kept, ("ring", way)), NEVER)
            self.assertEqual(self.shows(web, [0] * web[0], tuple(range(web[0])), ("ring", ring)), NEVER)

    def test_rings_that_are_none(self):
        web = plain_web(6, [(0, 1), (1, 2), (0, 2), (2, 3), (3, 4), (3, 4), (5, 5), (4, 5)])
        kept = (0, 1, 2, 3, 4, 5)
        for ring in ((0, 1, 2), (3, 4), (5,)):
            self.assertEqual(self.shows(web, [1] * 6, kept, ("ring", ring)), NEVER)
        for ring in ((), (0,), (0, 1), (0, 1, 2, 3), (0, 1, 3), (0, 1, 2, 0), (5, 5), (2, 3, 4), (3, 4, 3, 4),
                     (0, 0, 0), (4, 5), (0, 1, 6), (0, 1, -1), (0, 1, -4), (6,), (-1,)):
            self.none(web, [1] * 6, kept, ("ring", ring))
        for far in FARS:
            self.none(web, [1] * 6, kept, ("ring", (far,)))
            self.none(web, [1] * 6, kept, ("ring", (0, 1, far)))
            self.none(web, [1] * 6, kept, ("ring", (0, 1, 2, far)))

    def test_rings_not_all_kept(self):
        web = joined(whole_web(4), looped())
        for kept in all_sets(5):
            for ring in ((0, 1, 2), (3, 1, 0, 2), (4,)):
                wanted = NEVER if set(ring) <= set(kept) else None
                self.assertEqual(self.shows(web, [1] * 5, kept, ("ring", ring)), wanted)

    def test_rings_with_a_taken_place(self):
        web = whole_web(4)
        tree = ("part", 3, ("ring", (0, 1, 2)), ("ring", (0, 1, 2)))
        self.assertEqual(self.shows(web, [1] * 4, (0, 1, 2), tree), NEVER)
        self.none(web, [1] * 4, (0, 1, 2), ("part", 3, ("ring", (1, 2, 3)), ("ring", (0, 1, 2))))
        self.assertEqual(self.shows(web, [1] * 4, (0, 1, 2), ("part", 3, ("ring", (0, 1, 2)), ("ring", (1, 2, 3)))),
                         NEVER)

    def test_the_web_without_places(self):
        self.none(bare(0), [], (), ("ring", ()))
        self.none(bare(0), [], (), ("ring", (0,)))
        self.assertEqual(self.shows(bare(0), [], (), ("shares", [])), ("least", 0))
        self.none(bare(0), [], (), ("part", 0, ("shares", []), ("shares", [])))


class Shares(Judged):
    def both(self, web, weights, kept, rows):
        """Rows as a list and as a tuple show the same."""
        told = self.shows(web, weights, kept, ("shares", list(rows)))
        self.assertEqual(self.shows(web, weights, kept, ("shares", tuple(rows))), told)
        return told

    def test_no_rows(self):
        for web in small_webs(601, 30):
            self.assertEqual(self.both(web, [7] * web[0], (), []), ("least", 0))
            self.assertEqual(self.both(web, [7] * web[0], tuple(range(web[0])), []), ("least", 0))

    def test_rings_from_any_place_on_either_way_and_several_times(self):
        web = joined(circle(5), looped(), plain_web(2, [(0, 1)] * 3))
        weights = [9, 8, 7, 6, 5, 4, 3, 2]
        for way in turned((0, 1, 2, 3, 4)):
            self.assertEqual(self.both(web, weights, (), [(way, 5)]), ("least", 5))
            self.assertIsNone(self.both(web, weights, (), [(way, 6)]))
        ways = turned((0, 1, 2, 3, 4))
        self.assertEqual(self.both(web, weights, (), [(way, 1) for way in ways[:5]]), ("least", 5))
        self.assertEqual(self.both(web, weights, (), [(ways[0], 1)] * 5), ("least", 5))
        self.assertIsNone(self.both(web, weights, (), [(way, 1) for way in ways[:6]]))
        self.assertEqual(self.both(web, weights, (), [((6, 7), 1), ((7, 6), 1)]), ("least", 2))
        self.assertIsNone(self.both(web, weights, (), [((6, 7), 1), ((7, 6), 1), ((6, 7), 1)]))
        self.assertEqual(self.both(web, weights, (), [((5,), 2), (ways[7], 5), ((5,), 2), ((6, 7), 2)]), ("least", 11))

    def test_shares_up_to_the_weight_and_one_more(self):
        web = plain_web(5, [(0, 1), (1, 2), (0, 2), (2, 3), (3, 4), (2, 4)])
        for most in (1, 2, 5, FAR, 10 ** 60):
            for place in range(5):
                weights = [10 ** 60] * 5
                weights[place] = most
                rows = [((0, 1, 2), most)] if place < 3 else [((2, 3, 4), most)]
                self.assertEqual(self.both(web, weights, (), rows), ("least", most))
                rows = [((0, 1, 2), most + 1)] if place < 3 else [((2, 3, 4), most + 1)]
                self.assertIsNone(self.both(web, weights, (), rows))
                # What is kept bears as much as may be.
                self.assertEqual(self.both(web, weights, (place,), rows),
                                 ("least", most + 1) if most < 10 ** 60 else None)
        weights = [1, 1, 3, 2, 2]
        self.assertEqual(self.both(web, weights, (), [((0, 1, 2), 1), ((2, 3, 4), 2)]), ("least", 3))
        weights = [1, 1, 2, 2, 2]
        self.assertIsNone(self.both(web, weights, (), [((0, 1, 2), 1), ((2, 3, 4), 2)]))
        self.assertIsNone(self.both(web, weights, (), [((2, 3, 4), 2), ((0, 1, 2), 1)]))
        self.assertEqual(self.both(web, weights, (2,), [((2, 3, 4), 2), ((0, 1, 2), 1)]), ("least", 3))

    def test_shares_that_are_none(self):
        web = circle(4)
        for share in (0, -1, -2, -FAR, FAR, 10 ** 60 - 1):
            self.assertIsNone(self.both(web, [5] * 4, (), [((0, 1, 2, 3), share)]))
            self.assertIsNone(self.both(web, [5] * 4, (), [((0, 1, 2, 3), 2), ((0, 1, 2, 3), share)]))
            self.assertIsNone(self.both(web, [5] * 4, (), [((0, 1, 2, 3), share), ((0, 1, 2, 3), 2)]))
        self.assertIsNone(self.both(web, [5] * 4, (), [((0, 1, 2, 3), 6), ((0, 1, 2, 3), -1)]))
        self.assertIsNone(self.both(web, [5] * 4, (), [((0, 1, 2, 3), FAR), ((0, 1, 2, 3), -FAR)]))
        self.assertEqual(self.both(web, [10 ** 60] * 4, (), [((0, 1, 2, 3), FAR)]), ("least", FAR))

    def test_weights_of_nought_and_great_ones(self):
        web = joined(circle(3), circle(3))
        for zero in range(3):
            weights = [5] * 6
            weights[zero] = 0
            self.assertIsNone(self.both(web, weights, (), [((0, 1, 2), 1)]))
            self.assertEqual(self.both(web, weights, (zero,), [((0, 1, 2), 5)]), ("least", 5))
            self.assertEqual(self.both(web, weights, (), [((3, 4, 5), 5)]), ("least", 5))
        great = 10 ** 60
        weights = [great] * 6
        self.assertEqual(self.both(web, weights, (), [((0, 1, 2), great), ((3, 4, 5), great)]), ("least", 2 * great))
        self.assertIsNone(self.both(web, weights, (), [((0, 1, 2), great), ((1, 0, 2), 1)]))
        self.assertEqual(self.both(web, weights, (), [((0, 1, 2), great - 1), ((1, 0, 2), 1)]), ("least", great))

    def test_rings_that_are_none(self):
        web = plain_web(6, [(0, 1), (1, 2), (0, 2), (2, 3), (3, 4), (3, 4), (5, 5), (4, 5)])
        right = [((0, 1, 2), 1), ((3, 4), 1), ((5,), 1)]
        self.assertEqual(self.both(web, [9] * 6, (), right), ("least", 3))
        for ring in ((), (0,), (0, 1), (0, 1, 2, 3), (0, 1, 3), (0, 1, 2, 0), (5, 5), (2, 3, 4), (3, 4, 3, 4),
                     (4, 5), (0, 1, 6), (0, 1, -1), (6,), (-1,)) + tuple((0, 1, far) for far in FARS):
            for at in range(4):
                self.assertIsNone(self.both(web, [9] * 6, (), right[:at] + [(ring, 1)] + right[at:]))
            self.assertIsNone(self.both(web, [9] * 6, (), [(ring, 1)]))

    def test_rings_without_an_open_place(self):
        web = joined(circle(3), circle(3))
        for kept in all_sets(6):
            rows = [((1, 2, 0), 4)]
            wanted = None if set(kept) >= {0, 1, 2} else ("least", 4)
            self.assertEqual(self.both(web, [4] * 6, kept, rows), wanted)
        self.assertIsNone(self.both(web, [4] * 6, (0, 1, 2), [((3, 4, 5), 4), ((0, 1, 2), 1)]))

    def test_rings_with_a_taken_place(self):
        web = joined(whole_web(4), circle(3))
        weights = [1, 2, 4, 8, 16, 32, 64]
        for place in range(7):
            for ring in ((0, 1, 2), (3, 2, 1), (0, 3, 2, 1), (4, 5, 6)):
                tree = ("part", place, ("shares", [(ring, 1)]), ("shares", []))
                wanted = None if place in ring else ("least", 0)
                self.assertEqual(self.shows(web, weights, (), tree), wanted)
        tree = ("part", 0, ("shares", [((1, 2, 3), 2), ((4, 6, 5), 16)]), ("ring", (0, 1, 2)))
        self.assertEqual(self.shows(web, weights, (1, 2), tree), ("least", 19))
        tree = ("part", 0, ("shares", [((1, 2, 3), 8), ((4, 6, 5), 16)]), ("ring", (0, 1, 2)))
        self.assertEqual(self.shows(web, weights, (1, 2), tree), ("least", 25))


class Parts(Judged):
    def test_the_lesser_of_both(self):
        web = joined(circle(3), circle(3))
        weights = [3, 5, 7, 2, 2, 9]
        small = ("shares", [])
        great = ("shares", [((3, 4, 5), 2)])
        self.assertEqual(self.shows(web, weights, (), ("part", 0, small, small)), ("least", 0))
        self.assertEqual(self.shows(web, weights, (), ("part", 0, small, great)), ("least", 2))
        self.assertEqual(self.shows(web, weights, (), ("part", 0, great, small)), ("least", 0))
        second = ("shares", [((3, 4, 5), 2), ((0, 1, 2), 5)])
        self.assertEqual(self.shows(web, weights, (), ("part", 0, great, second)), ("least", 5))
        self.assertEqual(self.shows(web, weights, (), ("part", 0, small, second)), ("least", 3))
        second = ("shares", [((3, 4, 5), 2), ((0, 1, 2), 2)])
        self.assertEqual(self.shows(web, weights, (), ("part", 0, great, second)), ("least", 4))

    def test_taken_places_weigh(self):
        web = circle(3)
        for first in (0, 1, 10 ** 60):
            for second in (0, 4, 10 ** 60):
                tree = ("part", 0, ("part", 2, ("shares", ()), ("shares", ())),
                        ("part", 2, ("shares", ()), ("part", 1, ("shares", ()), ("ring", (0, 1, 2)))))
                wanted = min(first, second, 10 ** 59)
                self.assertEqual(self.shows(web, [first, 10 ** 59, second], (), tree), ("least", wanted))

    def test_never_on_one_side_and_on_both(self):
        web = joined(circle(3), looped())
        ring = ("ring", (0, 1, 2))
        weights = [4, 4, 4, 6]
        self.assertEqual(self.shows(web, weights, (1, 2), ("part", 0, ("shares", []), ring)), ("least", 4))
        self.assertEqual(self.shows(web, weights, (0, 1, 2), ("part", 3, ring, ("shares", []))), ("least", 0))
        self.assertEqual(self.shows(web, weights, (0, 1, 2), ("part", 3, ring, ring)), NEVER)
        self.assertEqual(self.shows(web, weights, (0, 1, 2), ("part", 3, ring, ("ring", (3,)))), NEVER)
        self.assertEqual(self.shows(web, [10 ** 60] * 4, (1, 2), ("part", 0, ("shares", []), ring)),
                         ("least", 10 ** 60))
        inner = ("part", 3, ring, ("ring", (3,)))
        self.assertEqual(self.shows(web, weights, (1, 2), ("part", 0, ("shares", [((3,), 6)]), inner)), ("least", 10))
        self.none(web, weights, (1, 2), ("part", 0, inner, inner))

    def test_none_on_one_side_is_none(self):
        web = joined(circle(3), looped())
        wrong = [("ring", ()), ("ring", (0, 1)), ("shares", [((0, 1), 1)]), ("shares", [((0, 1, 2), 0)]),
                 ("part", 3, ("shares", []), ("shares", [])), ("part", 4, ("shares", []), ("shares", []))]
        right = [("shares", []), ("ring", (0, 1, 2))]
        for bad in wrong:
            for good in right:
                self.none(web, [1] * 4, (0, 1, 2), ("part", 3, bad, good))
                self.none(web, [1] * 4, (0, 1, 2), ("part", 3, good, bad))
            self.none(web, [1] * 4, (0, 1, 2), ("part", 3, wrong[0], bad))

    def test_places_that_are_not_open(self):
        web = joined(circle(3), bare(2))
        leaf = ("shares", [])
        for place in range(5):
            self.assertEqual(self.shows(web, [1] * 5, (), ("part", place, leaf, leaf)), ("least", 0))
            self.none(web, [1] * 5, (place,), ("part", place, leaf, leaf))
            self.none(web, [1] * 5, (), ("part", place, ("part", place, leaf, leaf), leaf))
            self.none(web, [1] * 5, (), ("part", place, leaf, ("part", place, leaf, leaf)))
        for place in (5, 6, 40, -1, -5, -6) + FARS:
            self.none(web, [1] * 5, (), ("part", place, leaf, leaf))
            self.none(web, [1] * 5, (), ("part", 0, ("part", place, leaf, leaf), leaf))
            self.none(web, [1] * 5, (), ("part", 0, leaf, ("part", place, leaf, leaf)))

    def test_what_is_taken_and_kept_in_one_half_is_open_in_the_other(self):
        web = circle(3)
        inner = ("part", 1, ("shares", []), ("shares", []))
        self.assertEqual(self.shows(web, [1] * 3, (), ("part", 0, inner, inner)), ("least", 0))
        deep = ("part", 0, ("part", 1, ("part", 2, ("shares", []), ("shares", [])), ("shares", [])),
                ("part", 2, ("part", 1, ("shares", []), ("shares", [])), ("part", 1, ("shares", []),
                                                                         ("ring", (0, 1, 2)))))
        self.assertEqual(self.shows(web, [4, 5, 6], (), deep), ("least", 4))
        self.assertEqual(self.shows(web, [7, 5, 6], (), deep), ("least", 5))
        self.assertEqual(self.shows(web, [7, 8, 6], (), deep), ("least", 6))

    def test_words_that_are_none(self):
        for word in ("", "rings", "share", "round", "parts", "never", "least"):
            self.none(circle(3), [1] * 3, (0, 1, 2), (word, (0, 1, 2)))
            self.none(circle(3), [1] * 3, (), (word, []))
            self.none(circle(3), [1] * 3, (), (word, 0, ("shares", []), ("shares", [])))


class Deep(Judged):
    def chain(self, places, first, last, side):
        tree = last
        for place in reversed(places):
            tree = ("part", place, tree, first) if side == 0 else ("part", place, first, tree)
        return tree

    def test_trees_of_41_within_one_another(self):
        web = circle(40)
        weights = [place + 1 for place in range(40)]
        ring = ("ring", tuple(range(40)))
        for order in (list(range(40)), list(range(39, -1, -1))):
            tree = self.chain(order, ("shares", []), ring, 1)
            self.assertEqual(count_trees(tree), 81)
            self.assertEqual(self.shows(web, weights, (), tree), ("least", 1))
            tree = self.chain(order, ("shares", []), ("shares", []), 0)
            self.assertEqual(self.shows(web, weights, (), tree), ("least", 0))
        tree = self.chain(range(40), ("shares", [((40,), 1)]), ("shares", []), 0)
        self.none(web, weights, (), tree)

    def test_all_taken(self):
        web = joined(circle(20), circle(20))
        weights = [10 ** 60] * 40
        great = ("shares", [(tuple(range(20, 40)), 10 ** 60)])
        tree = ("shares", [])
        for place in range(19, -1, -1):
            tree = ("part", place, tree, great)
        self.assertEqual(self.shows(web, weights, (), tree), ("least", 10 ** 60))
        self.assertEqual(self.shows(web, weights, (), tree[2][2]), ("least", 10 ** 60))

    def test_wrong_deep_within(self):
        web = circle(40)
        ring = ("ring", tuple(range(40)))
        wrong = [("ring", tuple(range(39))), ("ring", tuple(range(39)) + (FAR,)), ("part", 39, ring, ring),
                 ("part", -1, ring, ring), ("shares", [(tuple(range(40)), 1)]), ("shares", [((0, 1, 2), 1)]),
                 ("part", 40, ring, ring), ("part", FAR, ring, ring)]
        self.assertEqual(self.shows(web, [3] * 40, (), self.chain(range(40), ("shares", []), ring, 1)), ("least", 3))
        for bad in wrong:
            self.none(web, [3] * 40, (), self.chain(range(40), ("shares", []), bad, 1))

    def test_a_hundred_trees(self):
        web = joined(whole_web(5), circle(3), theta(3), bare(12))
        rng = random.Random(602)
        shown = []
        for k in range(60):
            weights = [rng.randrange(5) for place in range(web[0])]
            tree = ("shares", [])
            while count_trees(tree) < 99:
                tree = self.grown(rng, web, weights, tree, (), ())
            self.assertEqual(count_trees(tree), 99)
            wanted = plain_shows(web, weights, (), tree)
            self.assertEqual(self.shows(web, weights, (), tree), wanted)
            shown.append(wanted)
        self.assertNotIn(None, shown)

    def grown(self, rng, web, weights, tree, taken, kept):
        """The tree with one of its leaves made a part, at an open place."""
        if tree[0] != "part":
            place = rng.choice([place for place in range(web[0]) if place not in taken + kept])
            # The only ring of these three places: shares where one of them is open and none taken.
            free = [other for other in (5, 6, 7) if other not in kept + (place,)]
            share = min([weights[other] for other in free], default=0)
            rows = [((6, 7, 5), share)] if share and not set(taken) & {5, 6, 7} else []
            return ("part", place, ("shares", []), ("shares", rows))
        if rng.random() < 0.5:
            inner = self.grown(rng, web, weights, tree[2], taken + (tree[1],), kept)
            return tree[:2] + (inner, tree[3])
        return tree[:3] + (self.grown(rng, web, weights, tree[3], taken, kept + (tree[1],)),)


class Drawn(Judged):
    def test_right_trees(self):
        rng = random.Random(603)
        words = []
        for web in small_webs(603, 400, 5):
            weights, kept, tree = drawn_case(rng, web)
            wanted = plain_shows(web, weights, kept, tree)
            self.assertIsNotNone(wanted)
            self.assertEqual(self.shows(web, weights, kept, tree), wanted)
            words += [leaf[0] for leaf in all_leaves(tree)] + [wanted[0]]
        for word in ("ring", "shares", "never", "least"):
            self.assertGreater(words.count(word), 20)

    def test_trees_with_one_number_changed(self):
        rng = random.Random(604)
        numbers = (0, 1, 2, 3, 4, 5, 6, -1, 7) + FARS
        wrong = 0
        for web in small_webs(604, 500, 5):
            weights, kept, tree = drawn_case(rng, web)
            for k in range(6):
                changed = drawn_change(rng, tree, numbers)
                wanted = plain_shows(web, weights, kept, changed)
                self.assertEqual(self.shows(web, weights, kept, changed), wanted)
                wrong += wanted is None
        self.assertGreater(wrong, 500)

    def test_trees_of_other_kept_places_and_weights(self):
        rng = random.Random(605)
        for web in small_webs(605, 400, 5):
            weights, kept, tree = drawn_case(rng, web)
            other, held, another = drawn_case(rng, web)
            for row, places, paper in ((other, kept, tree), (weights, held, tree), (weights, kept, another)):
                self.assertEqual(self.shows(web, row, places, paper), plain_shows(web, row, places, paper))

    def test_no_clearing_set_weighs_less(self):
        rng = random.Random(606)
        for web in small_webs(606, 250, 5):
            weights, kept, tree = drawn_case(rng, web)
            shown = tree_shows(web, weights, kept, tree)
            for places in all_sets(web[0]):
                if not set(places) & set(kept) and plain_clears(web, places):
                    self.assertEqual(shown[0], "least")
                    self.assertLessEqual(shown[1], weigh(weights, places))

    def test_large_webs(self):
        web = joined(whole_web(13), whole_web(13), circle(14))
        self.assertLessEqual(len(web[1]), 200)
        rows = [((k, k + 1, k + 2), 10 ** 60) for k in range(0, 12, 3)]
        rows += [((k + 2, k + 1, k), 10 ** 60) for k in range(13, 25, 3)] + [(tuple(range(26, 40)), 10 ** 60)]
        with soon():
            self.assertEqual(self.shows(web, [10 ** 60] * 40, (), ("shares", rows)), ("least", 9 * 10 ** 60))
            self.none(web, [10 ** 60] * 40, (), ("shares", rows + [((24, 25, 23), 1)]))


class Named(unittest.TestCase):
    def test_arguments_by_their_names(self):
        told = tree_shows(tree=("shares", [((0, 1, 2), 2)]), kept=(1,), weights=[2, 0, 2], web=circle(3))
        self.assertEqual(told, ("least", 2))


if __name__ == "__main__":
    unittest.main()
