"""11.2: what trees of cases of one-way webs show, and 0.2, 0.3 as far as they speak of them."""

import copy
import random
import unittest

from ringfell.onejudge import one_shows
from tests.helpers import FAR, all_sets, soon
from tests.trees import ROUNDS, all_leaves, count_trees, drawn_case, drawn_change, plain_shows, weigh
from tests.ways import behind, circled, oneway, plain_clearing, rotated, small_oneways, whole_oneway

NEVER = ("never",)
FARS = (FAR, -FAR, 10 ** 60 - 1, 1 - 10 ** 60)
LOOPED = (1, ((0, 0),))


def changed_kind(thing, kind):
    """The tree with the rows of its shares as lists, or as tuples."""
    if isinstance(thing, (list, tuple)) and thing and thing[0] == "shares":
        return ("shares", kind(thing[1]))
    if isinstance(thing, tuple) and thing and thing[0] == "part":
        return thing[:2] + (changed_kind(thing[2], kind), changed_kind(thing[3], kind))
    return thing


class Judged(unittest.TestCase):
    def shows(self, web, weights, kept, tree):
        """What is told, whatever the lists are, and with nothing changed."""
        before = copy.deepcopy((weights, tree))
        told = one_shows(web, weights, kept, tree)
        self.assertEqual((weights, tree), before)
        self.assertEqual(one_shows(web, tuple(weights), kept, tree), told)
        self.assertEqual(one_shows(web, list(weights), kept, tree), told)
        self.assertEqual(one_shows(web, weights, kept, changed_kind(tree, tuple)), told)
        self.assertEqual(one_shows(web, weights, kept, changed_kind(tree, list)), told)
        if told is not None:
            self.assertIs(type(told), tuple)
            self.assertIs(type(told[0]), str)
            if told != NEVER:
                self.assertEqual(len(told), 2)
                self.assertEqual(told[0], "least")
                self.assertIs(type(told[1]), int)
        return told

    def none(self, web, weights, kept, tree):
        self.assertIsNone(self.shows(web, weights, kept, tree))


class Rounds(Judged):
    def test_kept_rounds_from_any_place_on(self):
        webs = [(LOOPED, (0,)), (oneway(2, [(0, 1), (1, 0)]), (0, 1)), (circled(3), (0, 1, 2)),
                (whole_oneway(5), (1, 3, 0, 4)), (circled(7), (0, 1, 2, 3, 4, 5, 6))]
        for web, row in webs:
            kept = tuple(sorted(row))
            for turn in rotated(row):
                self.assertEqual(self.shows(web, [1] * web[0], kept, ("round", turn)), NEVER)
            self.assertEqual(self.shows(web, [0] * web[0], tuple(range(web[0])), ("round", row)), NEVER)

    def test_the_other_way_about(self):
        for many in (3, 4, 7, 40):
            web = circled(many)
            row = tuple(range(many))
            for turn in rotated(row):
                self.assertEqual(self.shows(web, [1] * many, row, ("round", turn)), NEVER)
                self.none(web, [1] * many, row, ("round", turn[::-1]))
                self.none(web, [1] * many, (), ("shares", [(turn[::-1], 1)]))
        # Of two places there is but one way about.
        web = oneway(2, [(0, 1), (1, 0)])
        self.assertEqual(self.shows(web, [1] * 2, (0, 1), ("round", (1, 0))), NEVER)

    def test_rounds_that_are_none(self):
        web = oneway(6, [(0, 1), (1, 2), (2, 0), (2, 3), (3, 4), (4, 3), (5, 5), (4, 5)])
        kept = (0, 1, 2, 3, 4, 5)
        for row in ((0, 1, 2), (3, 4), (5,)):
            self.assertEqual(self.shows(web, [1] * 6, kept, ("round", row)), NEVER)
        wrong = ((), (0,), (0, 1), (0, 1, 2, 3), (0, 1, 3), (0, 1, 2, 0), (5, 5), (2, 3, 4), (3, 4, 3, 4), (0, 2, 1),
                 (0, 0, 0), (4, 5), (0, 1, 6), (0, 1, -1), (0, 1, -4), (6,), (-1,))
        for row in wrong + tuple((far,) for far in FARS) + tuple((0, 1, 2, far) for far in FARS):
            self.none(web, [1] * 6, kept, ("round", row))
            self.none(web, [9] * 6, (), ("shares", [(row, 1)]))
            self.none(web, [9] * 6, (), ("shares", [((3, 4), 1), (row, 1), ((5,), 1)]))

    def test_rounds_not_all_kept(self):
        web = behind(whole_oneway(4), LOOPED)
        for kept in all_sets(5):
            for row in ((0, 1, 2), (3, 1, 0, 2), (4,), (2, 0)):
                wanted = NEVER if set(row) <= set(kept) else None
                self.assertEqual(self.shows(web, [1] * 5, kept, ("round", row)), wanted)

    def test_taken_places(self):
        web = whole_oneway(4)
        good = ("round", (0, 1, 2))
        self.assertEqual(self.shows(web, [1] * 4, (0, 1, 2), ("part", 3, good, good)), NEVER)
        self.none(web, [1] * 4, (0, 1, 2), ("part", 3, ("round", (1, 2, 3)), good))
        self.assertEqual(self.shows(web, [1] * 4, (0, 1, 2), ("part", 3, good, ("round", (1, 2, 3)))), NEVER)

    def test_the_web_without_places(self):
        self.none((0, ()), [], (), ("round", ()))
        self.none((0, ()), [], (), ("round", (0,)))
        self.assertEqual(self.shows((0, ()), [], (), ("shares", [])), ("least", 0))
        self.none((0, ()), [], (), ("part", 0, ("shares", []), ("shares", [])))

    def test_words_that_are_none(self):
        for word in ("", "ring", "rounds", "share", "parts", "never", "least"):
            self.none(circled(3), [1] * 3, (0, 1, 2), (word, (0, 1, 2)))
            self.none(circled(3), [1] * 3, (), (word, 0, ("shares", []), ("shares", [])))


class Shares(Judged):
    def test_no_rows(self):
        for web in small_oneways(1301, 30):
            self.assertEqual(self.shows(web, [7] * web[0], (), ("shares", [])), ("least", 0))
            self.assertEqual(self.shows(web, [7] * web[0], tuple(range(web[0])), ("shares", [])), ("least", 0))

    def test_from_any_place_on_and_several_times(self):
        web = behind(circled(5), LOOPED, oneway(2, [(0, 1), (1, 0)]))
        weights = [9, 8, 7, 6, 5, 4, 3, 2]
        turns = rotated((0, 1, 2, 3, 4))
        for turn in turns:
            self.assertEqual(self.shows(web, weights, (), ("shares", [(turn, 5)])), ("least", 5))
            self.none(web, weights, (), ("shares", [(turn, 6)]))
        self.assertEqual(self.shows(web, weights, (), ("shares", [(turn, 1) for turn in turns])), ("least", 5))
        self.none(web, weights, (), ("shares", [(turn, 1) for turn in turns + turns[:1]]))
        self.assertEqual(self.shows(web, weights, (), ("shares", [((6, 7), 1), ((7, 6), 1)])), ("least", 2))
        self.none(web, weights, (), ("shares", [((6, 7), 1), ((7, 6), 1), ((6, 7), 1)]))
        rows = [((5,), 2), (turns[3], 5), ((5,), 2), ((6, 7), 2)]
        self.assertEqual(self.shows(web, weights, (), ("shares", rows)), ("least", 11))

    def test_up_to_the_weight_and_one_more(self):
        web = oneway(5, [(0, 1), (1, 2), (2, 0), (2, 3), (3, 4), (4, 2)])
        for most in (1, 2, 5, FAR, 10 ** 60):
            for place in range(5):
                weights = [10 ** 60] * 5
                weights[place] = most
                row = (0, 1, 2) if place < 3 else (2, 3, 4)
                self.assertEqual(self.shows(web, weights, (), ("shares", [(row, most)])), ("least", most))
                self.none(web, weights, (), ("shares", [(row, most + 1)]))
                # What is kept bears as much as may be.
                self.assertEqual(self.shows(web, weights, (place,), ("shares", [(row, most + 1)])),
                                 ("least", most + 1) if most < 10 ** 60 else None)
        self.assertEqual(self.shows(web, [1, 1, 3, 2, 2], (), ("shares", [((0, 1, 2), 1), ((2, 3, 4), 2)])),
                         ("least", 3))
        self.none(web, [1, 1, 2, 2, 2], (), ("shares", [((0, 1, 2), 1), ((2, 3, 4), 2)]))
        self.assertEqual(self.shows(web, [1, 1, 2, 2, 2], (2,), ("shares", [((2, 3, 4), 2), ((0, 1, 2), 1)])),
                         ("least", 3))

    def test_shares_that_are_none(self):
        web = circled(4)
        for share in (0, -1, -2, -FAR, FAR, 10 ** 60 - 1):
            self.none(web, [5] * 4, (), ("shares", [((0, 1, 2, 3), share)]))
            self.none(web, [5] * 4, (), ("shares", [((0, 1, 2, 3), 2), ((0, 1, 2, 3), share)]))
            self.none(web, [5] * 4, (), ("shares", [((0, 1, 2, 3), share), ((0, 1, 2, 3), 2)]))
        self.none(web, [5] * 4, (), ("shares", [((0, 1, 2, 3), 6), ((0, 1, 2, 3), -1)]))
        self.none(web, [0] * 4, (), ("shares", [((0, 1, 2, 3), 1)]))
        self.assertEqual(self.shows(web, [10 ** 60] * 4, (), ("shares", [((0, 1, 2, 3), FAR)])), ("least", FAR))

    def test_without_an_open_place(self):
        web = behind(circled(3), circled(3))
        for kept in all_sets(6):
            wanted = None if set(kept) >= {0, 1, 2} else ("least", 4)
            self.assertEqual(self.shows(web, [4] * 6, kept, ("shares", [((1, 2, 0), 4)])), wanted)
        self.none(web, [4] * 6, (0, 1, 2), ("shares", [((3, 4, 5), 4), ((0, 1, 2), 1)]))

    def test_with_a_taken_place(self):
        web = behind(whole_oneway(4), circled(3))
        weights = [1, 2, 4, 8, 16, 32, 64]
        for place in range(7):
            for row in ((0, 1, 2), (3, 2, 1), (0, 3, 2, 1), (4, 5, 6), (0, 3)):
                tree = ("part", place, ("shares", [(row, 1)]), ("shares", []))
                self.assertEqual(self.shows(web, weights, (), tree), None if place in row else ("least", 0))


class Parts(Judged):
    def test_the_lesser_of_both(self):
        web = behind(circled(3), circled(3))
        weights = [3, 5, 7, 2, 2, 9]
        small = ("shares", [])
        great = ("shares", [((3, 4, 5), 2)])
        self.assertEqual(self.shows(web, weights, (), ("part", 0, small, small)), ("least", 0))
        self.assertEqual(self.shows(web, weights, (), ("part", 0, small, great)), ("least", 2))
        second = ("shares", [((3, 4, 5), 2), ((0, 1, 2), 5)])
        self.assertEqual(self.shows(web, weights, (), ("part", 0, great, second)), ("least", 5))
        self.assertEqual(self.shows(web, weights, (), ("part", 0, small, second)), ("least", 3))

    def test_never_on_one_side_and_on_both(self):
        web = behind(circled(3), LOOPED)
        held = ("round", (0, 1, 2))
        weights = [4, 4, 4, 6]
        self.assertEqual(self.shows(web, weights, (1, 2), ("part", 0, ("shares", []), held)), ("least", 4))
        self.assertEqual(self.shows(web, weights, (0, 1, 2), ("part", 3, held, held)), NEVER)
        self.assertEqual(self.shows(web, weights, (0, 1, 2), ("part", 3, held, ("round", (3,)))), NEVER)
        self.assertEqual(self.shows(web, [10 ** 60] * 4, (1, 2), ("part", 0, ("shares", []), held)),
                         ("least", 10 ** 60))

    def test_none_on_one_side_is_none(self):
        web = behind(circled(3), LOOPED)
        wrong = [("round", ()), ("round", (2, 1, 0)), ("ring", (0, 1, 2)), ("shares", [((0, 1), 1)]),
                 ("shares", [((0, 1, 2), 0)]), ("part", 3, ("shares", []), ("shares", [])),
                 ("part", 4, ("shares", []), ("shares", []))]
        for bad in wrong:
            for good in (("shares", []), ("round", (0, 1, 2))):
                self.none(web, [1] * 4, (0, 1, 2), ("part", 3, bad, good))
                self.none(web, [1] * 4, (0, 1, 2), ("part", 3, good, bad))

    def test_places_that_are_not_open(self):
        web = behind(circled(3), (2, ()))
        leaf = ("shares", [])
        for place in range(5):
            self.assertEqual(self.shows(web, [1] * 5, (), ("part", place, leaf, leaf)), ("least", 0))
            self.none(web, [1] * 5, (place,), ("part", place, leaf, leaf))
            self.none(web, [1] * 5, (), ("part", place, ("part", place, leaf, leaf), leaf))
            self.none(web, [1] * 5, (), ("part", place, leaf, ("part", place, leaf, leaf)))
        for place in (5, 6, 40, -1, -5, -6) + FARS:
            self.none(web, [1] * 5, (), ("part", place, leaf, leaf))
            self.none(web, [1] * 5, (), ("part", 0, ("part", place, leaf, leaf), leaf))
            self.none(web, [1] * 5, (), ("part", 0, leaf, ("part", place, leaf, leaf)))

    def test_trees_of_41_within_one_another(self):
        web = circled(40)
        weights = [place + 1 for place in range(40)]
        leaf = ("shares", [])
        for order in (range(40), range(39, -1, -1)):
            tree = ("round", tuple(range(40)))
            for place in order:
                tree = ("part", place, leaf, tree)
            self.assertEqual(count_trees(tree), 81)
            with soon():
                self.assertEqual(self.shows(web, weights, (), tree), ("least", 1))
        for bad in (("round", tuple(range(39))), ("round", tuple(range(39, -1, -1))), ("part", 0, leaf, leaf),
                    ("shares", [(tuple(range(40)), 1)])):
            for place in range(40):
                bad = ("part", place, leaf, bad)
            self.none(web, weights, (), bad)
        tree = leaf
        for place in range(40):
            tree = ("part", place, tree, leaf)
        self.assertEqual(self.shows(web, weights, (), tree), ("least", 0))


class Drawn(Judged):
    def test_right_trees(self):
        rng = random.Random(1302)
        words = []
        for web in small_oneways(1303, 400):
            weights, kept, tree = drawn_case(rng, web, 4, ROUNDS)
            wanted = plain_shows(web, weights, kept, tree, ROUNDS)
            self.assertIsNotNone(wanted)
            self.assertEqual(self.shows(web, weights, kept, tree), wanted)
            words += [leaf[0] for leaf in all_leaves(tree)] + [wanted[0]]
        for word in ("round", "shares", "never", "least"):
            self.assertGreater(words.count(word), 20)

    def test_trees_with_one_number_changed(self):
        rng = random.Random(1304)
        numbers = (0, 1, 2, 3, 4, 5, 6, -1, 7) + FARS
        wrong = 0
        for web in small_oneways(1305, 400):
            weights, kept, tree = drawn_case(rng, web, 4, ROUNDS)
            for k in range(6):
                changed = drawn_change(rng, tree, numbers)
                wanted = plain_shows(web, weights, kept, changed, ROUNDS)
                self.assertEqual(self.shows(web, weights, kept, changed), wanted)
                wrong += wanted is None
        self.assertGreater(wrong, 400)

    def test_trees_of_other_kept_places_and_weights(self):
        rng = random.Random(1306)
        for web in small_oneways(1307, 250):
            weights, kept, tree = drawn_case(rng, web, 4, ROUNDS)
            other, held, another = drawn_case(rng, web, 4, ROUNDS)
            for row, places, paper in ((other, kept, tree), (weights, held, tree), (weights, kept, another)):
                self.assertEqual(self.shows(web, row, places, paper), plain_shows(web, row, places, paper, ROUNDS))

    def test_no_clearing_set_weighs_less(self):
        rng = random.Random(1308)
        for web in small_oneways(1309, 200):
            weights, kept, tree = drawn_case(rng, web, 4, ROUNDS)
            shown = one_shows(web, weights, kept, tree)
            for places in all_sets(web[0]):
                if not set(places) & set(kept) and plain_clearing(web, places):
                    self.assertEqual(shown[0], "least")
                    self.assertLessEqual(shown[1], weigh(weights, places))


class Named(unittest.TestCase):
    def test_arguments_by_their_names(self):
        told = one_shows(tree=("shares", [((1, 2, 0), 2)]), kept=(1,), weights=[2, 0, 2], web=circled(3))
        self.assertEqual(told, ("least", 2))


if __name__ == "__main__":
    unittest.main()
