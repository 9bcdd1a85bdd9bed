"""8.1 to 8.5: webs with three ties at each place, and 0.2, 0.4 as far as they speak of them."""

import copy
import random
import unittest

from ringfell.errors import NotClear, NotThree, TooMany
from ringfell.threes import parting_rows, parting_twice, three_counts, three_cut
from tests.helpers import (FAR, all_sets, bare, circle, joined, looped, plain_clears, plain_cut, plain_fewest,
                           plain_parts, plain_web, renamed, small_webs, soon, three_tied, whole_web)


def tripled():
    return plain_web(2, [(0, 1)] * 3)


def barbell():
    return plain_web(2, [(0, 0), (0, 1), (1, 1)])


def drawn_three(rng, many):
    ends = [place for place in range(many) for k in range(3)]
    rng.shuffle(ends)
    return plain_web(many, [(ends[at], ends[at + 1]) for at in range(0, 3 * many, 2)])


def three_webs(seed, sizes=(0, 2, 4, 6), count=12):
    """Webs with three ties at each place, with loops and with several ties of a pair, too."""
    rng = random.Random(seed)
    prism = plain_web(6, [(0, 1), (1, 2), (0, 2), (3, 4), (4, 5), (3, 5), (0, 3), (1, 4), (2, 5)])
    star = plain_web(4, [(0, 1), (0, 2), (0, 3), (1, 1), (2, 2), (3, 3)])
    ladder = plain_web(4, [(0, 1)] * 2 + [(1, 2)] + [(2, 3)] * 2 + [(0, 3)])
    webs = [bare(0), tripled(), barbell(), joined(tripled(), barbell()), whole_web(4), star, ladder, prism,
            three_tied()[1][0], joined(barbell(), barbell(), tripled()), joined(whole_web(4), tripled())]
    webs = [web for web in webs if web[0] in sizes]
    for many in sizes:
        webs += [drawn_three(rng, many) for k in range(count)]
    return sorted(set(webs))


def all_partings(places):
    """All ways to part these places, each a list of lists."""
    if not places:
        yield []
        return
    for rest in all_partings(places[1:]):
        yield [[places[0]]] + rest
        for at in range(len(rest)):
            yield rest[:at] + [[places[0]] + rest[at]] + rest[at + 1:]


def inside(web, part):
    return [tie for tie in web[1] if tie[0] in part and tie[1] in part]


def pieces(web, part):
    """Into how many parts these places hang together by ties among them."""
    others = [place for place in range(web[0]) if place not in part]
    return len([piece for piece in plain_parts(plain_cut(web, others)) if piece[0] in part])


def is_odd(web, part):
    return (len(inside(web, part)) - len(part) + 1) % 2 == 1


def plain_parting(web, parts):
    met = []
    for part in parts:
        if not part or list(part) != sorted(set(part)) or not set(part) <= set(range(web[0])):
            return False
        if pieces(web, part) != 1:
            return False
        met += part
    return sorted(met) == list(range(web[0]))


def ties_between(web, parts):
    home = {place: at for at, part in enumerate(parts) for place in part}
    return [tie for tie in web[1] if home[tie[0]] != home[tie[1]]]


def plain_twice(web, parts):
    """8.2's count of a parting, None of what is none."""
    if not plain_parting(web, parts):
        return None
    worth = sum(2 if is_odd(web, part) else 1 for part in parts)
    return web[0] // 2 + worth - len(ties_between(web, parts))


def partings_of(web):
    for lists in all_partings(list(range(web[0]))):
        parts = [tuple(part) for part in lists]
        if plain_parting(web, parts):
            yield parts


class Cut(unittest.TestCase):
    def held(self, web):
        told = three_cut(web)
        self.assertEqual(three_cut(web), told)
        self.assertIs(type(told), tuple)
        places, parts = told
        self.assertIs(type(places), tuple)
        self.assertIs(type(parts), list)
        self.assertEqual(places, tuple(sorted(set(places))))
        self.assertTrue(plain_clears(web, places))
        self.assertTrue(all(type(part) is tuple for part in parts))
        self.assertEqual(parts, sorted(parts))
        self.assertTrue(plain_parting(web, parts))
        self.assertEqual(plain_twice(web, parts), 2 * len(places))
        self.assertEqual(parting_twice(web, parts), 2 * len(places))
        return len(places)

    def test_small_webs(self):
        for web in three_webs(801):
            self.assertEqual(self.held(web), plain_fewest(web))

    def test_eight_places(self):
        rng = random.Random(802)
        webs = [joined(whole_web(4), whole_web(4)), joined(*[tripled()] * 4), joined(*[barbell()] * 4)]
        cube = [(a, a ^ bit) for a in range(8) for bit in (1, 2, 4) if a < a ^ bit]
        webs += [plain_web(8, cube), plain_web(8, list(circle(8)[1]) + [(k, k + 4) for k in range(4)])]
        webs += [renamed(rng, joined(whole_web(4), drawn_three(rng, 4))) for k in range(5)]
        for web in webs + three_webs(803, (8,), 60):
            with soon():
                self.held(web)

    def test_edges(self):
        self.assertEqual(three_cut(bare(0)), ((), []))
        self.assertEqual(self.held(tripled()), 1)
        self.assertEqual(self.held(barbell()), 2)
        self.assertEqual(self.held(joined(*[barbell()] * 4)), 8)
        self.assertEqual(self.held(whole_web(4)), 2)

    def test_no_parting_counts_further(self):
        for web in three_webs(804, (0, 2, 4, 6), 6):
            fewest = self.held(web)
            for parts in partings_of(web):
                self.assertLessEqual(plain_twice(web, parts), 2 * fewest)

    def test_more_than_eight_places(self):
        rng = random.Random(805)
        for many in (10, 12, 20, 40):
            for k in range(3):
                with self.assertRaises(TooMany):
                    three_cut(drawn_three(rng, many))
        with self.assertRaises(TooMany):
            three_cut(joined(*[barbell()] * 5))

    def test_told_lists_are_the_askers_own(self):
        told = three_cut(whole_web(4))
        kept = copy.deepcopy(told)
        told[1].append((9,))
        told[1][0] = None
        self.assertEqual(three_cut(whole_web(4)), kept)


class Refused(unittest.TestCase):
    def webs(self):
        """Webs that have not just three ties at each place."""
        few = [bare(1), bare(2), bare(40), looped(), circle(3), circle(10), whole_web(3), whole_web(5), whole_web(12)]
        few += [plain_web(2, [(0, 1)] * count) for count in (1, 2, 4)]
        few += [plain_web(2, [(0, 0), (0, 1)]), plain_web(2, [(0, 0), (0, 0), (1, 1)]), plain_web(1, [(0, 0)] * 2)]
        few += [joined(web, bare(1)) for web in three_webs(811, (0, 2, 4, 6, 8), 3)]
        few += [joined(looped(), web) for web in three_webs(812, (2, 8), 3)]
        few += [plain_web(web[0], web[1][1:]) for web in three_webs(813, (2, 4, 8), 4)]
        few += [plain_web(web[0], web[1] + ((0, web[0] - 1),)) for web in three_webs(814, (2, 4, 8), 4)]
        few.append(plain_web(10, list(drawn_three(random.Random(815), 10)[1][1:])))
        return few + [web for web in small_webs(816, 60) if any(
            sum(tie.count(place) for tie in web[1]) != 3 for place in range(web[0]))]

    def test_not_three_ahead_of_all_else(self):
        for web in self.webs():
            everything = tuple(range(web[0]))
            with self.assertRaises(NotThree):
                three_cut(web)
            for parts in ([], [everything], [()], [(FAR,)], [(place,) for place in everything]):
                with self.assertRaises(NotThree):
                    parting_twice(web, parts)
            for places in ((), everything):
                with self.assertRaises(NotThree):
                    three_counts(web, places)
                with self.assertRaises(NotThree):
                    parting_rows(web, places, [everything])

    def test_not_clear_behind(self):
        for web in three_webs(817):
            for places in all_sets(web[0]):
                if not plain_clears(web, places):
                    with self.assertRaises(NotClear):
                        three_counts(web, places)
                    with self.assertRaises(NotClear):
                        parting_rows(web, places, plain_parts(web))
        # Also of webs with more than eight places.
        web = three_tied()[-1][0]
        with self.assertRaises(NotClear):
            three_counts(web, (0,))
        with self.assertRaises(NotClear):
            parting_rows(web, (0,), [tuple(range(30))])


class Twice(unittest.TestCase):
    def told(self, web, parts):
        before = copy.deepcopy(parts)
        told = parting_twice(web, parts)
        self.assertEqual(parts, before)
        self.assertEqual(parting_twice(web, tuple(parts)), told)
        if told is not None:
            self.assertIs(type(told), int)
        return told

    def test_all_partings_and_what_is_none(self):
        for web in three_webs(821, (0, 2, 4, 6), 5):
            for lists in all_partings(list(range(web[0]))):
                parts = [tuple(part) for part in lists]
                wanted = plain_twice(web, parts)
                self.assertEqual(self.told(web, parts), wanted)
                self.assertEqual(self.told(web, parts[::-1]), wanted)

    def test_named_partings(self):
        self.assertEqual(self.told(bare(0), []), 0)
        self.assertEqual(self.told(whole_web(4), [(0, 1, 2, 3)]), 4)
        self.assertEqual(self.told(whole_web(4), [(0,), (1,), (2,), (3,)]), 0)
        self.assertEqual(self.told(whole_web(4), [(0, 1, 2), (3,)]), 2)
        self.assertEqual(self.told(whole_web(4), [(0, 1), (2, 3)]), 0)
        self.assertEqual(self.told(tripled(), [(0, 1)]), 2)
        self.assertEqual(self.told(tripled(), [(0,), (1,)]), 0)
        self.assertEqual(self.told(barbell(), [(0,), (1,)]), 4)
        self.assertEqual(self.told(barbell(), [(0, 1)]), 2)
        six = three_tied()[1][0]
        self.assertEqual(self.told(six, [(0,), (1,), (2,), (3,), (4,), (5,)]), 0)
        forty = three_tied()[-1][0]
        self.assertEqual(self.told(forty, [(place,) for place in range(30)]), 15 + 30 - 45)
        self.assertEqual(self.told(forty, [tuple(range(30))]), 15 + 1)
        petersen = three_tied()[2][0]
        self.assertEqual(self.told(petersen, [(0, 1, 2, 3, 4), (5, 6, 7, 8, 9)]), 5 + 2 + 2 - 5)
        self.assertEqual(self.told(petersen, [(0, 1)] + [(place,) for place in range(2, 10)]), 5 + 9 - 14)

    def test_eight_places(self):
        for web in three_webs(822, (8,), 2):
            for parts in partings_of(web):
                self.assertEqual(parting_twice(web, parts), plain_twice(web, parts))

    def test_least_counts(self):
        # As the places of a part hang together, its ties within are as many as its places, less 1,
        # at least: so no count is below nought.
        rng = random.Random(823)
        for many in (2, 6, 12, 40):
            web = drawn_three(rng, many)
            loops = len([tie for tie in web[1] if tie[0] == tie[1]])
            self.assertEqual(self.told(web, [(place,) for place in range(many)]), 2 * loops)
            self.assertEqual(self.told(web, plain_parts(web)), plain_twice(web, plain_parts(web)))

    def test_what_is_no_parting(self):
        web = whole_web(4)
        for parts in ([], [()], [(0, 1, 2, 3), ()], [(), (0, 1, 2, 3)], [(0, 1, 2)], [(0,), (1,), (2,)],
                      [(0, 1, 2, 3), (3,)], [(0, 1), (1, 2, 3)], [(0, 1, 2, 3), (0, 1, 2, 3)], [(3, 2, 1, 0)],
                      [(0, 1, 3, 2)], [(0, 1), (3, 2)], [(0, 0, 1, 2, 3)], [(0, 1, 2, 3, 3)], [(0, 1, 2, 3, 4)],
                      [(0, 1, 2, 3), (4,)], [(-1, 0, 1, 2, 3)], [(0, 1, 2, 3), (-1,)], [(-1,), (0, 1, 2, 3)],
                      [(0, 1, 2), (-1,)], [(-4, 1, 2, 3)], [(0, 1, 2, 3, FAR)], [(FAR,)], [(-FAR, 0, 1, 2, 3)],
                      [(0, 1, 2, 3), (FAR,)], [(0, 1, 2, 3), (-FAR,)], [(-FAR,), (0, 1, 2, 3)], [(0, 1, 2), (FAR,)]):
            self.assertIsNone(self.told(web, parts), parts)
        for parts in ([()], [(0,)], [(), ()], [(FAR,)], [(-1,)]):
            self.assertIsNone(self.told(bare(0), parts))

    def test_parts_that_do_not_hang_together(self):
        web = joined(tripled(), tripled())
        self.assertEqual(self.told(web, [(0, 1), (2, 3)]), 4)
        for parts in ([(0, 1, 2, 3)], [(0, 2), (1, 3)], [(0, 2), (1,), (3,)], [(0, 1, 2), (3,)]):
            self.assertIsNone(self.told(web, parts))
        six = three_tied()[1][0]
        self.assertIsNone(self.told(six, [(0, 1), (2, 3, 4, 5)]))
        self.assertIsNone(self.told(six, [(0, 1, 2), (3, 4, 5)]))
        self.assertIsNotNone(self.told(six, [(0, 1, 3), (2, 4, 5)]))


class Counted(unittest.TestCase):
    def held(self, web, places):
        told = three_counts(web, places)
        left = [place for place in range(web[0]) if place not in places]
        self.assertEqual(told, (pieces(web, left), len(inside(web, places))))
        self.assertIs(type(told), tuple)
        self.assertEqual([type(number) for number in told], [int, int])
        self.assertEqual(2 * len(places), web[0] // 2 + sum(told))

    def test_each_clearing_set_of_small_webs(self):
        for web in three_webs(831) + three_webs(832, (8,), 4):
            for places in all_sets(web[0]):
                if plain_clears(web, places):
                    self.held(web, places)

    def test_larger_webs(self):
        rng = random.Random(833)
        for web in [web for web, length in three_tied()] + [drawn_three(rng, 40) for k in range(5)]:
            for size in (web[0], web[0] - 1, web[0] - 2, web[0] * 3 // 4):
                places = tuple(sorted(rng.sample(range(web[0]), size)))
                if plain_clears(web, places):
                    self.held(web, places)

    def test_edges(self):
        self.assertEqual(three_counts(bare(0), ()), (0, 0))
        self.assertEqual(three_counts(barbell(), (0, 1)), (0, 3))
        self.assertEqual(three_counts(tripled(), (1,)), (1, 0))
        self.assertEqual(three_counts(tripled(), (0, 1)), (0, 3))
        self.assertEqual(three_counts(whole_web(4), (0, 1)), (1, 1))


class Rows(unittest.TestCase):
    def held(self, web, places, parts):
        before = list(parts)
        rows = parting_rows(web, places, parts)
        self.assertEqual(parting_rows(web, places, tuple(parts)), rows)
        self.assertEqual(parts, before)
        self.assertIs(type(rows), list)
        self.assertEqual(len(rows), len(parts))
        for part, row in zip(parts, rows):
            left = [place for place in part if place not in places]
            taken = [place for place in part if place in places]
            ends = 0
            for a, b in web[1]:
                if a in part and b not in part:
                    ends += a in places
                if b in part and a not in part:
                    ends += b in places
            self.assertEqual(row, (pieces(web, left), len(inside(web, taken)), ends))
            self.assertIs(type(row), tuple)
            self.assertEqual([type(number) for number in row], [int, int, int])
            self.assertGreater(sum(row), 0)
            self.assertEqual(sum(row) % 2 == 0, is_odd(web, part))
        between = len(ties_between(web, parts))
        self.assertEqual(sum(sum(row) for row in rows), sum(three_counts(web, places)) + between)

    def test_each_clearing_set_and_parting_of_small_webs(self):
        for web in three_webs(841, (0, 2, 4), 8) + three_webs(842, (6,), 2):
            partings = list(partings_of(web))
            for places in all_sets(web[0]):
                if plain_clears(web, places):
                    for parts in partings:
                        self.held(web, places, parts)

    def test_drawn_partings_of_eight_places(self):
        rng = random.Random(843)
        for web in three_webs(844, (8,), 3):
            partings = list(partings_of(web))
            for k in range(60):
                places = tuple(sorted(rng.sample(range(8), rng.randrange(9))))
                if plain_clears(web, places):
                    self.held(web, places, rng.choice(partings))

    def test_rows_in_the_order_of_the_parts(self):
        web = joined(tripled(), barbell(), whole_web(4))
        parts = [(2,), (4, 5, 6), (0, 1), (7,), (3,)]
        rng = random.Random(845)
        for k in range(20):
            rng.shuffle(parts)
            self.held(web, (1, 2, 3, 6, 7), parts)

    def test_named_rows(self):
        self.assertEqual(parting_rows(bare(0), (), []), [])
        self.assertEqual(parting_rows(whole_web(4), (0, 1), [(0, 2), (1,), (3,)]), [(1, 0, 2), (0, 0, 3), (1, 0, 0)])
        self.assertEqual(parting_rows(whole_web(4), (0, 1), [(0, 1, 2, 3)]), [(1, 1, 0)])
        self.assertEqual(parting_rows(barbell(), (0, 1), [(1,), (0,)]), [(0, 1, 1), (0, 1, 1)])

    def test_larger_webs(self):
        petersen = three_tied()[2][0]
        self.held(petersen, tuple(range(5)) + (6,), [(5, 6, 7, 8, 9), (0, 1, 2, 3, 4)])
        self.held(petersen, tuple(range(10)), [(place,) for place in range(10)])

    def test_told_lists_are_the_askers_own(self):
        told = parting_rows(whole_web(4), (0, 1), [(0, 1, 2, 3)])
        told.append(None)
        self.assertEqual(parting_rows(whole_web(4), (0, 1), [(0, 1, 2, 3)]), [(1, 1, 0)])


class Named(unittest.TestCase):
    def test_arguments_by_their_names(self):
        web = tripled()
        self.assertEqual(len(three_cut(web=web)[0]), 1)
        self.assertEqual(parting_twice(parts=[(0, 1)], web=web), 2)
        self.assertEqual(three_counts(places=(0,), web=web), (1, 0))
        self.assertEqual(parting_rows(parts=[(0, 1)], places=(0,), web=web), [(1, 0, 0)])


if __name__ == "__main__":
    unittest.main()
