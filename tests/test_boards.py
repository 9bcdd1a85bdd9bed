"""13.1 to 13.3: boards, fewest arrows with as many rounds, their judge, and 0.2 to 0.4 as far as they speak of it."""

import copy
import random
import unittest
from itertools import combinations

from ringfell.boards import board_cut, board_right, is_board
from ringfell.errors import BadBoard, TooMany
from tests.helpers import FAR, soon
from tests.ways import circled, oneway, plain_free, plain_gone, plain_round, plain_without, rotated

SMALL = [(rows, columns) for rows in range(1, 10) for columns in range(1, 10) if rows * columns <= 9]


def board_pairs(rows, columns):
    """13.1: all arrows that a board lets."""
    pairs = []
    for row in range(rows):
        for column in range(columns):
            for down, aside in ((0, 1), (1, 0), (0, -1), (-1, 0)):
                if 0 <= row + down < rows and 0 <= column + aside < columns:
                    pairs.append((row * columns + column, (row + down) * columns + column + aside))
    return sorted(pairs)


def drawn_board(rng, rows, columns):
    pairs = board_pairs(rows, columns)
    sort = rng.randrange(3)
    if sort == 0:
        pairs = rng.sample(pairs, rng.randrange(len(pairs) + 1))
    if sort == 1:
        # One arrow for each two places side by side: the rounds have four places at least.
        pairs = [rng.choice(((a, b), (b, a))) for a, b in pairs if a < b]
    if sort == 2:
        pairs = [pair for pair in pairs if rng.random() < 0.8]
    return oneway(rows * columns, pairs)


def plain_right(web, arrows, rounds):
    """13.2, word by word."""
    arrows = list(arrows)
    if arrows != sorted(set(arrows)) or not set(arrows) <= set(web[1]):
        return False
    if not plain_free(plain_without(web, arrows)):
        return False
    if list(rounds) != sorted(rounds) or not all(plain_round(web, row) and row[0] == min(row) for row in rounds):
        return False
    gone = [arrow for row in rounds for arrow in plain_gone(row)]
    return len(set(gone)) == len(gone) and len(rounds) == len(arrows)


class Boards(unittest.TestCase):
    def test_arrows_of_small_boards_one_by_one(self):
        for rows, columns in SMALL + [(4, 5), (5, 8), (2, 10)]:
            many = rows * columns
            let = board_pairs(rows, columns)
            for pair in ((a, b) for a in range(many) for b in range(many)):
                self.assertIs(is_board(rows, columns, (many, (pair,))), pair in let)

    def test_webs_of_several_arrows(self):
        rng = random.Random(1701)
        for rows, columns in SMALL + [(4, 5), (5, 8), (8, 5), (1, 40), (40, 1)]:
            many = rows * columns
            for k in range(10):
                web = drawn_board(rng, rows, columns)
                self.assertIs(is_board(rows, columns, web), True)
                pair = (rng.randrange(many), rng.randrange(many))
                more = oneway(many, web[1] + (pair,))
                self.assertIs(is_board(rows, columns, more), pair in board_pairs(rows, columns))

    def test_loops_slants_row_ends_and_two_on(self):
        for arrow in ((4, 4), (0, 4), (4, 0), (1, 3), (2, 4), (2, 3), (3, 2), (5, 6), (0, 2), (2, 0), (0, 6), (8, 0)):
            self.assertIs(is_board(3, 3, (9, (arrow,))), False)
        for arrow in ((0, 1), (1, 0), (0, 3), (3, 0), (4, 5), (5, 8), (7, 4)):
            self.assertIs(is_board(3, 3, (9, (arrow,))), True)
        self.assertIs(is_board(3, 3, oneway(9, [(0, 1), (1, 0), (4, 5), (5, 4)])), True)

    def test_exchanged(self):
        web = oneway(6, [(0, 3), (1, 4), (4, 5)])
        self.assertIs(is_board(2, 3, web), True)
        self.assertIs(is_board(3, 2, web), False)
        self.assertIs(is_board(3, 2, oneway(6, [(0, 2), (2, 3)])), True)
        self.assertIs(is_board(1, 6, oneway(6, [(0, 1), (5, 4)])), True)
        self.assertIs(is_board(6, 1, oneway(6, [(0, 1), (5, 4)])), True)
        self.assertIs(is_board(2, 3, (6, ())), True)
        self.assertIs(is_board(3, 2, (6, ())), True)

    def test_any_two_numbers(self):
        for many in (0, 1, 4, 6, 9, 40):
            for rows in (0, -1, -2, -3, 1, 2, 3, 4, 6, 7, 9, 40, FAR, -FAR, 10 ** 60 - 1):
                for columns in (0, -1, -2, -3, 1, 2, 3, 4, 6, 7, 9, 40, FAR, -FAR):
                    wanted = rows >= 1 and columns >= 1 and rows * columns == many
                    self.assertIs(is_board(rows, columns, (many, ())), wanted)
        self.assertIs(is_board(-2, -3, (6, ())), False)
        self.assertIs(is_board(0, 5, (0, ())), False)


class Refused(unittest.TestCase):
    def refused(self, error, rows, columns, web):
        with self.assertRaises(error):
            board_cut(rows, columns, web)
        for arrows, rounds in (((), []), (web[1], []), (((FAR, 0),), [(FAR,)])):
            with self.assertRaises(error):
                board_right(rows, columns, web, arrows, rounds)

    def test_bad_boards(self):
        for rows, columns, web in ((0, 0, (0, ())), (1, 0, (0, ())), (-1, -1, (1, ())), (2, 3, (5, ())),
                                   (2, 3, (7, ())), (3, 3, (9, ((0, 4),))), (3, 3, (9, ((2, 3),))), (1, 1, (1, ((0, 0),))),
                                   (FAR, 1, (9, ())), (2, 2, (4, ((0, 3),))), (3, 2, oneway(6, [(0, 3)])),
                                   (1, 4, oneway(4, circled(4)[1]))):
            self.refused(BadBoard, rows, columns, web)

    def test_bad_boards_ahead_of_too_many(self):
        for rows, columns, web in ((2, 5, (10, ((0, 9),))), (5, 8, (40, ((0, 0),))), (4, 5, (21, ())),
                                   (0, 10, (10, ())), (-2, -5, (10, ()))):
            self.refused(BadBoard, rows, columns, web)

    def test_more_than_nine_places(self):
        for rows, columns in ((2, 5), (5, 2), (1, 10), (10, 1), (3, 4), (4, 4), (5, 8), (1, 40)):
            self.refused(TooMany, rows, columns, (rows * columns, ()))
            self.refused(TooMany, rows, columns, oneway(rows * columns, board_pairs(rows, columns)[:30]))
        for rows, columns in SMALL:
            board_cut(rows, columns, (rows * columns, ()))


class Cut(unittest.TestCase):
    def held(self, rows, columns, web):
        with soon():
            told = board_cut(rows, columns, web)
        self.assertIs(type(told), tuple)
        self.assertEqual([type(part) for part in told], [tuple, list])
        self.assertTrue(all(type(thing) is tuple for thing in told[0] + tuple(told[1])))
        self.assertTrue(plain_right(web, *told))
        self.assertIs(board_right(rows, columns, web, *told), True)
        self.assertEqual(board_cut(rows, columns, web), told)
        for row in told[1]:
            self.assertEqual(len([arrow for arrow in plain_gone(row) if arrow in told[0]]), 1)
        return told

    def test_all_webs_of_the_least_boards(self):
        for rows, columns in ((1, 1), (1, 2), (2, 1), (1, 3), (3, 1), (2, 2), (1, 4)):
            pairs = board_pairs(rows, columns)
            for size in range(len(pairs) + 1):
                for arrows in combinations(pairs, size):
                    self.held(rows, columns, (rows * columns, arrows))

    def test_one_arrow_for_each_two_places(self):
        # All webs of two by three places, and some of three by three.
        rng = random.Random(1711)
        pairs = [pair for pair in board_pairs(2, 3) if pair[0] < pair[1]]
        for number in range(2 ** len(pairs)):
            web = oneway(6, [pair if number >> k & 1 else pair[::-1] for k, pair in enumerate(pairs)])
            self.held(2, 3, web)
        pairs = [pair for pair in board_pairs(3, 3) if pair[0] < pair[1]]
        for k in range(60):
            self.held(3, 3, oneway(9, [rng.choice((pair, pair[::-1])) for pair in pairs]))

    def test_drawn_webs(self):
        rng = random.Random(1712)
        for rows, columns in SMALL:
            for k in range(40 if rows * columns >= 6 else 8):
                self.held(rows, columns, drawn_board(rng, rows, columns))

    def test_all_arrows(self):
        for rows, columns in SMALL:
            pairs = board_pairs(rows, columns)
            told = self.held(rows, columns, (rows * columns, tuple(pairs)))
            self.assertEqual(len(told[0]), len(pairs) // 2)

    def test_all_arrows_but_some(self):
        rng = random.Random(1713)
        pairs = board_pairs(3, 3)
        for less in (1, 1, 1, 2, 2, 3, 4, 5, 6, 8):
            self.held(3, 3, oneway(9, rng.sample(pairs, len(pairs) - less)))

    def test_fewest_by_trying_all_sets(self):
        rng = random.Random(1714)
        for k in range(40):
            rows, columns = rng.choice(((2, 2), (2, 3), (3, 2), (2, 4)))
            web = drawn_board(rng, rows, columns)
            if len(web[1]) <= 10:
                fewest = next(size for size in range(len(web[1]) + 1) for gone in combinations(web[1], size)
                              if plain_free(plain_without(web, gone)))
                self.assertEqual(len(self.held(rows, columns, web)[0]), fewest)

    def test_named_webs(self):
        self.assertEqual(self.held(1, 1, (1, ())), ((), []))
        self.assertEqual(self.held(3, 3, (9, ())), ((), []))
        told = self.held(2, 2, oneway(4, [(0, 1), (1, 3), (3, 2), (2, 0)]))
        self.assertEqual(told[1], [(0, 1, 3, 2)])
        told = self.held(1, 3, oneway(3, board_pairs(1, 3)))
        self.assertEqual(told[1], [(0, 1), (1, 2)])
        # About the board and back through its middle.
        edge = [(0, 1), (1, 2), (2, 5), (5, 8), (8, 7), (7, 6), (6, 3), (3, 0)]
        self.assertEqual(len(self.held(3, 3, oneway(9, edge))[0]), 1)
        self.assertEqual(len(self.held(3, 3, oneway(9, edge + [(7, 4), (4, 1)]))[0]), 1)
        self.assertEqual(len(self.held(3, 3, oneway(9, edge + [(7, 4), (4, 1), (3, 4), (4, 5)]))[0]), 1)
        self.assertEqual(len(self.held(3, 3, oneway(9, edge + [(1, 4), (4, 3)]))[0]), 1)
        two = [(0, 1), (1, 4), (4, 3), (3, 0), (4, 5), (5, 8), (8, 7), (7, 4)]
        self.assertEqual(self.held(3, 3, oneway(9, two))[1], [(0, 1, 4, 3), (4, 5, 8, 7)])

    def test_rounds_that_would_take_the_arrows_of_others(self):
        # Among the short rounds there is one that shares arrows with each of the others.
        first = oneway(9, [(0, 3), (1, 0), (1, 2), (2, 5), (3, 4), (4, 1), (4, 7), (5, 4), (5, 8), (6, 3), (7, 6), (7, 8)])
        self.assertEqual(self.held(3, 3, first)[1], [(1, 2, 5, 4), (3, 4, 7, 6)])
        second = oneway(9, [(0, 1), (1, 4), (2, 1), (3, 0), (3, 6), (4, 3), (4, 5), (5, 2), (6, 7), (7, 4), (7, 8), (8, 5)])
        self.assertEqual(self.held(3, 3, second)[1], [(1, 4, 5, 2), (3, 6, 7, 4)])

    def test_told_lists_are_the_askers_own(self):
        web = oneway(3, board_pairs(1, 3))
        told = board_cut(1, 3, web)
        kept = copy.deepcopy(told)
        told[1].clear()
        self.assertEqual(board_cut(1, 3, web), kept)


class Right(unittest.TestCase):
    def both(self, rows, columns, web, arrows, rounds):
        before = copy.deepcopy((arrows, rounds))
        told = board_right(rows, columns, web, arrows, rounds)
        self.assertIs(told, plain_right(web, arrows, rounds))
        self.assertEqual((arrows, rounds), before)
        self.assertIs(board_right(rows, columns, web, tuple(arrows), tuple(rounds)), told)
        self.assertIs(board_right(rows, columns, web, list(arrows), list(rounds)), told)
        return told

    def changes(self, web, arrows, rounds):
        """The told ones with one thing changed."""
        numbers = list(range(-1, web[0] + 2)) + [FAR, -FAR]
        for at in range(len(arrows)):
            yield arrows[:at] + arrows[at + 1:], rounds
            yield arrows[:at] + arrows[at + 1:], rounds[:at] + rounds[at + 1:]
            yield arrows[:at + 1] + arrows[at:], rounds
            yield arrows[:at + 1] + arrows[at:], rounds[:at + 1] + rounds[at:]
            yield arrows, rounds[:at] + rounds[at + 1:]
            yield arrows, rounds[:at + 1] + rounds[at:]
            for other in web[1]:
                yield tuple(sorted(arrows[:at] + (other,) + arrows[at + 1:])), rounds
            for number in numbers:
                yield arrows[:at] + ((arrows[at][0], number),) + arrows[at + 1:], rounds
                yield arrows[:at] + ((number, number),) + arrows[at + 1:], rounds
                row = rounds[at][:-1] + (number,)
                yield arrows, rounds[:at] + [row] + rounds[at + 1:]
            for row in rotated(rounds[at]) + [rounds[at][::-1], rounds[at] + rounds[at][:1], ()]:
                yield arrows, rounds[:at] + [row] + rounds[at + 1:]
                yield arrows, sorted(rounds[:at] + [row] + rounds[at + 1:])
            for other in rounds:
                yield arrows, sorted(rounds[:at] + [other] + rounds[at + 1:])
        for arrow in web[1]:
            yield tuple(sorted(arrows + (arrow,))), rounds
        yield arrows[::-1], rounds
        yield arrows, rounds[::-1]
        yield (), []
        yield (), rounds
        yield arrows, []
        yield arrows + ((FAR, FAR),), rounds + [(FAR,)]

    def test_with_one_thing_changed(self):
        rng = random.Random(1721)
        wrong = 0
        for rows, columns in [(1, 2), (2, 2), (2, 3), (3, 2), (1, 6), (2, 4), (3, 3), (3, 3)]:
            for k in range(4):
                web = drawn_board(rng, rows, columns)
                arrows, rounds = board_cut(rows, columns, web)
                self.assertTrue(self.both(rows, columns, web, arrows, rounds))
                for other, rows_of in self.changes(web, arrows, rounds):
                    wrong += not self.both(rows, columns, web, other, rows_of)
        self.assertGreater(wrong, 1000)

    def test_other_right_ones(self):
        # Whoever made them: other arrows, and other rounds.
        web = oneway(4, [(0, 1), (1, 3), (3, 2), (2, 0)])
        for arrow in web[1]:
            self.assertTrue(self.both(2, 2, web, (arrow,), [(0, 1, 3, 2)]))
        self.assertFalse(self.both(2, 2, web, (web[1][0],), [(1, 3, 2, 0)]))
        full = oneway(4, board_pairs(2, 2))
        self.assertTrue(self.both(2, 2, full, ((0, 1), (0, 2), (1, 3), (2, 3)), [(0, 1), (0, 2), (1, 3), (2, 3)]))
        self.assertTrue(self.both(2, 2, full, ((1, 0), (2, 0), (3, 1), (3, 2)), [(0, 1), (0, 2), (1, 3), (2, 3)]))
        self.assertFalse(self.both(2, 2, full, ((0, 1), (1, 3), (2, 0), (3, 2)), [(0, 1), (0, 2), (1, 3), (2, 3)]))
        self.assertFalse(self.both(2, 2, full, ((0, 1), (0, 2), (1, 3), (2, 3)), [(0, 1, 3, 2), (0, 2, 3, 1)]))

    def test_fewer_rounds_with_as_many_arrows_are_no_paper(self):
        # Two arrows where one will do: there are no two rounds.
        web = oneway(6, [(0, 1), (1, 4), (4, 3), (3, 0), (4, 5), (5, 2)])
        self.assertTrue(self.both(2, 3, web, ((0, 1),), [(0, 1, 4, 3)]))
        self.assertFalse(self.both(2, 3, web, ((0, 1), (1, 4)), [(0, 1, 4, 3)]))
        self.assertFalse(self.both(2, 3, web, ((0, 1), (1, 4)), [(0, 1, 4, 3), (0, 1, 4, 3)]))
        self.assertFalse(self.both(2, 3, web, ((4, 5),), [(0, 1, 4, 3)]))

    def test_rounds_with_a_common_arrow(self):
        web = oneway(6, [(0, 1), (1, 2), (1, 4), (2, 5), (3, 0), (4, 3), (5, 4)])
        one, other = (0, 1, 2, 5, 4, 3), (0, 1, 4, 3)
        self.assertTrue(self.both(2, 3, web, ((0, 1),), [one]))
        self.assertTrue(self.both(2, 3, web, ((0, 1),), [other]))
        for arrows in (((0, 1), (1, 4)), ((1, 2), (1, 4)), ((0, 1), (4, 3))):
            self.assertFalse(self.both(2, 3, web, arrows, [one, other]))
            self.assertFalse(self.both(2, 3, web, arrows, [one, one]))

    def test_pairs_as_lists(self):
        web = oneway(2, [(0, 1), (1, 0)])
        self.assertIs(board_right(1, 2, web, [[0, 1]], [[0, 1]]), True)


class Named(unittest.TestCase):
    def test_arguments_by_their_names(self):
        web = oneway(6, [(0, 1), (1, 0), (4, 5)])
        self.assertIs(is_board(web=web, columns=3, rows=2), True)
        self.assertIs(is_board(web=web, columns=2, rows=3), True)
        arrows, rounds = board_cut(web=web, columns=3, rows=2)
        self.assertEqual(rounds, [(0, 1)])
        self.assertIs(board_right(rounds=rounds, arrows=arrows, web=web, columns=3, rows=2), True)


if __name__ == "__main__":
    unittest.main()
