"""14.1 and 14.2: webs, rows and logs written and read, and 0.2 to 0.4 as far as they speak of them."""

import random
import unittest
from itertools import combinations_with_replacement

from ringfell.errors import NoText
from ringfell.texts import log_text, numbers_text, oneway_text, read_log, read_numbers, read_oneway, read_web, web_text
from tests.helpers import FAR, large_webs, small_webs
from tests.ways import all_pairs, large_oneways, oneway, small_oneways

READERS = (read_web, read_oneway, read_numbers, read_log)
NO_TEXTS = (None, True, False, 0, 1, -1, FAR, (), [], {}, ("web", "0"), ["web", 0], b"web 0", b"-", {"web"}, object(), str,
            range(3), ((), ()), (0, ()), [("lone", 0)])
# Words that are written no number.
NO_NUMBERS = ("", "-", "-1", "+1", "-0", "+0", "00", "01", "007", "1.0", "1,0", "0x1", "1e1", "1_0", "a", "one", "1a", "a1",
              "'1'", "(1)", "1-", "-1-", ">", "--", "1\t", "\n1")
GREAT = ("41", "42", "99", "100", str(10 ** 60), str(10 ** 60 + 1), "1" + "0" * 999, "9" * 5000)


class Read(unittest.TestCase):
    def refused(self, at, read, thing):
        with self.assertRaises(NoText) as caught:
            read(thing)
        self.assertEqual((at, thing), (caught.exception.at, thing))


def drawn_log(rng, count):
    log = []
    for k in range(count):
        word = rng.choice(("lone", "two", "loop", "many"))
        places = sorted(rng.sample(range(40), 2)) if word == "many" else [rng.randrange(40)]
        log.append((word,) + tuple(places))
    return log


class Written(unittest.TestCase):
    def test_webs(self):
        self.assertEqual(web_text((0, ())), "web 0")
        self.assertEqual(web_text((40, ())), "web 40")
        self.assertEqual(web_text((3, ((0, 0), (0, 2), (0, 2), (1, 2)))), "web 3 0-0 0-2 0-2 1-2")
        self.assertEqual(web_text((40, ((9, 10), (38, 39)))), "web 40 9-10 38-39")
        self.assertEqual(web_text((40, ((3, 30),) * 200)), "web 40" + " 3-30" * 200)

    def test_oneways(self):
        self.assertEqual(oneway_text((0, ())), "ways 0")
        self.assertEqual(oneway_text((3, ((0, 0), (0, 2), (2, 0)))), "ways 3 0>0 0>2 2>0")
        self.assertEqual(oneway_text((40, ((10, 9), (39, 38)))), "ways 40 10>9 39>38")

    def test_numbers(self):
        for kind in (list, tuple):
            self.assertEqual(numbers_text(kind([])), "-")
            self.assertEqual(numbers_text(kind([0])), "0")
            self.assertEqual(numbers_text(kind([3, 3, 1, 0])), "3 3 1 0")
            self.assertEqual(numbers_text(kind([10 ** 60, 10 ** 60 - 1])), "1" + "0" * 60 + " " + "9" * 60)
            self.assertEqual(numbers_text(kind(range(60))), " ".join(map(str, range(60))))

    def test_logs(self):
        for kind in (list, tuple):
            self.assertEqual(log_text(kind([])), "-")
            self.assertEqual(log_text(kind([("lone", 0)])), "lone 0")
            log = [("lone", 3), ("two", 10), ("loop", 39), ("many", 0, 1)]
            self.assertEqual(log_text(kind(log)), "lone 3 two 10 loop 39 many 0 1")

    def test_what_is_handed_in_stays(self):
        row = [3, 1, 2]
        log = [("lone", 3), ("many", 1, 2)]
        numbers_text(row)
        log_text(log)
        self.assertEqual((row, log), ([3, 1, 2], [("lone", 3), ("many", 1, 2)]))


class ReadBack(unittest.TestCase):
    def test_webs(self):
        for web in small_webs(1801, 100) + large_webs(1802) + [(many, ()) for many in range(41)]:
            text = web_text(web)
            self.assertIs(type(text), str)
            told = read_web(text)
            self.assertEqual(told, web)
            self.assertIs(type(told), tuple)
            self.assertIs(type(told[1]), tuple)
            self.assertTrue(all(type(tie) is tuple for tie in told[1]))

    def test_oneways(self):
        webs = small_oneways(1803, 100) + large_oneways(1804) + [(many, ()) for many in range(41)]
        for web in webs + [oneway(15, all_pairs(15)[:200])]:
            told = read_oneway(oneway_text(web))
            self.assertEqual(told, web)
            self.assertIs(type(told), tuple)
            self.assertIs(type(told[1]), tuple)
            self.assertTrue(all(type(arrow) is tuple for arrow in told[1]))

    def test_numbers(self):
        rng = random.Random(1805)
        rows = [[], [0], [10 ** 60], [0] * 60, [10 ** 60] * 60, list(range(60))]
        rows += [[rng.choice((rng.randrange(10), rng.randrange(10 ** 60))) for k in range(rng.randrange(61))]
                 for n in range(50)]
        for row in rows:
            told = read_numbers(numbers_text(row))
            self.assertEqual(told, tuple(row))
            self.assertIs(type(told), tuple)
            self.assertTrue(all(type(number) is int for number in told))

    def test_logs(self):
        rng = random.Random(1806)
        logs = [[], [("lone", 0)], [("many", 0, 39)], [("many", 38, 39)] * 300] + [drawn_log(rng, 300)]
        for log in logs + [drawn_log(rng, rng.randrange(20)) for k in range(50)]:
            told = read_log(log_text(log))
            self.assertEqual(told, log)
            self.assertIs(type(told), list)
            self.assertTrue(all(type(step) is tuple for step in told))

    def test_told_lists_are_the_askers_own(self):
        told = read_log("lone 3")
        told.append(None)
        self.assertEqual(read_log("lone 3"), [("lone", 3)])


class AnyText(Read):
    def test_what_is_no_text(self):
        for read in READERS:
            for thing in NO_TEXTS:
                self.refused(0, read, thing)

    def test_the_empty_text_and_blanks(self):
        for read in READERS:
            for text in ("", " ", "  ", " -", " web 0", " ways 0", " lone 0", " 5", "   web 0"):
                self.refused(0, read, text)

    def test_wrong_heads(self):
        heads = ("web", "ways", "wen", "Web", "WEB", "webs", "way", "0", "web0", "web-", "we", "lone", "-", "0-1", "0>1")
        for head in heads:
            for rest in ("", " 3", " 3 0-1", " 3 0>1", " x"):
                if head != "web":
                    self.refused(0, read_web, head + rest)
                if head != "ways":
                    self.refused(0, read_oneway, head + rest)

    def test_single_rows_of_other_signs(self):
        for text in ("!", "~", "\"", "#", "web", "\\", "lone,3", "web;0", "{}", "tab\t", "web\n0"):
            self.refused(0, read_numbers, text)
            self.refused(0, read_log, text)


class Webs(Read):
    """Both kinds, by their words and signs."""

    KINDS = ((read_web, "web", "-", ">"), (read_oneway, "ways", ">", "-"))

    def test_ends_too_early(self):
        for read, word, sign, other in self.KINDS:
            self.refused(1, read, word)
            self.refused(1, read, word + " ")
            self.refused(1, read, word + "  ")
            self.refused(2, read, word + " 3 ")
            self.refused(3, read, f"{word} 3 0{sign}1 ")
            self.refused(2, read, f"{word} 3  0{sign}1")
            self.refused(3, read, f"{word} 3 0{sign}1  1{sign}2")

    def test_how_many_places(self):
        for read, word, sign, other in self.KINDS:
            for many in range(41):
                self.assertEqual(read(f"{word} {many}"), (many, ()))
            for many in NO_NUMBERS + GREAT:
                self.refused(1, read, f"{word} {many}")
                self.refused(1, read, f"{word} {many} 0{sign}1")
                self.refused(1, read, f"{word} {many} x")

    def test_words_that_are_no_pair(self):
        for read, word, sign, other in self.KINDS:
            wrong = ["", "0", "1", sign, f"0{sign}", f"{sign}1", f"0{other}1", f"0{sign}{sign}1", f"0{sign}1{sign}2",
                     f"0{sign}1,", f"(0{sign}1)", "x", word, "-", "0,1", f"00{sign}1", f"0{sign}01",
                     f"+0{sign}1", f"0{sign}+1", f"0{sign}-1", f"-0{sign}1", f"a{sign}b", f"0{sign}3", f"3{sign}3",
                     f"0{sign}41", f"41{sign}0", f"3{sign}0", f"4{sign}1", f"0{sign}" + "9" * 5000, "1" * 1000 + f"{sign}1", f"0{sign}{FAR}"]
            for bad in wrong:
                self.refused(2, read, f"{word} 3 {bad}")
                self.refused(3, read, f"{word} 3 0{sign}1 {bad}")
                self.refused(3, read, f"{word} 3 0{sign}1 {bad} {bad} x")
                self.refused(4, read, f"{word} 3 0{sign}1 1{sign}2 {bad} 0{sign}0")
            self.refused(2, read, f"{word} 0 0{sign}0")
            self.refused(2, read, f"{word} 40 0{sign}40")
            self.assertEqual(read(f"{word} 40 0{sign}39 39{sign}39"), (40, ((0, 39), (39, 39))))

    def test_wrong_order_of_a_ties_numbers(self):
        self.refused(2, read_web, "web 3 1-0")
        self.refused(3, read_web, "web 3 0-1 2-1 1-2")
        self.assertEqual(read_oneway("ways 3 1>0"), (3, ((1, 0),)))
        self.assertEqual(read_oneway("ways 3 0>1 1>0 2>1"), (3, ((0, 1), (1, 0), (2, 1))))

    def test_wrong_order_of_two(self):
        for read, word, sign, other in self.KINDS:
            self.refused(3, read, f"{word} 3 0{sign}2 0{sign}1")
            self.refused(3, read, f"{word} 3 1{sign}1 0{sign}2")
            self.refused(4, read, f"{word} 3 0{sign}0 1{sign}2 0{sign}1 1{sign}1")
            # By their numbers, not by their figures.
            self.assertEqual(read(f"{word} 40 9{sign}10 10{sign}11"), (40, ((9, 10), (10, 11))))
            self.refused(3, read, f"{word} 40 10{sign}11 9{sign}10")
            self.refused(3, read, f"{word} 40 1{sign}10 1{sign}9")

    def test_the_same_again(self):
        self.assertEqual(read_web("web 3 0-1 0-1 0-1"), (3, ((0, 1),) * 3))
        self.refused(3, read_oneway, "ways 3 0>1 0>1")
        self.refused(4, read_oneway, "ways 3 0>1 1>1 1>1 0>2")

    def test_the_201st(self):
        ties = list(combinations_with_replacement(range(40), 2))
        for pairs in (ties[:200], [(3, 30)] * 200):
            text = web_text((40, tuple(pairs)))
            self.assertEqual(read_web(text), (40, tuple(pairs)))
            for more in (" 39-39", " 39-39 39-39", " x", " ", " 0-0"):
                self.refused(202, read_web, text + more)
        arrows = all_pairs(40)[:200]
        text = oneway_text((40, tuple(arrows)))
        self.assertEqual(read_oneway(text), (40, tuple(arrows)))
        for more in (" 39>39", " 39>39 39>39", " x", " ", " 0>0"):
            self.refused(202, read_oneway, text + more)
        self.refused(201, read_web, "web 40" + " 0-0" * 199 + " x 0-0")

    def test_drawn_texts_with_one_word_changed(self):
        rng = random.Random(1811)
        for web in small_webs(1812, 60) + large_webs(1813)[-8:]:
            words = web_text(web).split(" ")
            for at in range(len(words)):
                wrong = rng.choice(("", "x", "1>1", "-", "0--1", "2-1", "41"))
                self.refused(at, read_web, " ".join(words[:at] + [wrong] + words[at + 1:]))
                self.refused(at, read_web, " ".join(words[:at] + [wrong]))
                self.refused(at, read_web, " ".join(words[:at] + [wrong] + words[at:]))


class Numbers(Read):
    def test_the_row_without_any(self):
        self.assertEqual(read_numbers("-"), ())
        for more in (" 0", " -", " ", "  ", " 0 1", " x", " - -"):
            self.refused(1, read_numbers, "-" + more)
        self.refused(1, read_numbers, "0 -")
        self.refused(2, read_numbers, "0 1 - 2")

    def test_words_that_are_no_number(self):
        for bad in NO_NUMBERS:
            if bad != "-":
                self.refused(0, read_numbers, bad)
                self.refused(0, read_numbers, bad + " 1")
            self.refused(1, read_numbers, "1 " + bad)
            self.refused(1, read_numbers, "1 " + bad + " x")
            self.refused(2, read_numbers, "0 " + str(10 ** 60) + " " + bad)

    def test_up_to_the_greatest_and_beyond(self):
        self.assertEqual(read_numbers(str(10 ** 60)), (10 ** 60,))
        self.assertEqual(read_numbers("9" * 60), (10 ** 60 - 1,))
        self.assertEqual(read_numbers("0 41 100"), (0, 41, 100))
        for great in (10 ** 60 + 1, 10 ** 61, 2 * 10 ** 60, 10 ** 60 + 10 ** 30):
            self.refused(0, read_numbers, str(great))
            self.refused(2, read_numbers, f"0 0 {great} 0")
        for figures in (61, 62, 1000, 4300, 4301, 8000):
            self.refused(0, read_numbers, "9" * figures)
        self.refused(0, read_numbers, "0" * 60)
        self.refused(1, read_numbers, "1 0" + "1" * 60)

    def test_the_61st(self):
        row = " ".join(["7"] * 60)
        self.assertEqual(read_numbers(row), (7,) * 60)
        for more in (" 7", " 7 7", " x", " ", " -"):
            self.refused(60, read_numbers, row + more)
        self.refused(59, read_numbers, " ".join(["7"] * 59) + " x 7 7")

    def test_blanks(self):
        self.refused(1, read_numbers, "1 ")
        self.refused(1, read_numbers, "1  2")
        self.refused(2, read_numbers, "1 2  3")
        self.refused(0, read_numbers, " 1")


class Logs(Read):
    def test_the_log_without_steps(self):
        self.assertEqual(read_log("-"), [])
        for more in (" lone 0", " -", " ", " x", " many 0 1"):
            self.refused(1, read_log, "-" + more)
        self.refused(2, read_log, "lone 0 -")

    def test_words_that_are_none(self):
        for bad in ("", "lon", "Lone", "lones", "one", "0", "-", "source", "apart", "web", "lone0", "many-", "in"):
            if bad != "-":
                self.refused(0, read_log, bad)
                self.refused(0, read_log, bad + " 0")
            self.refused(2, read_log, "two 0 " + bad)
            self.refused(3, read_log, "many 0 1 " + bad + " 3")

    def test_ends_too_early(self):
        for word in ("lone", "two", "loop", "many"):
            self.refused(1, read_log, word)
            self.refused(3, read_log, "loop 39 " + word)
        self.refused(2, read_log, "many 0")
        self.refused(2, read_log, "many 39")
        self.refused(5, read_log, "many 0 1 many 5")

    def test_places(self):
        for word in ("lone", "two", "loop"):
            for place in range(40):
                self.assertEqual(read_log(f"{word} {place}"), [(word, place)])
            for bad in NO_NUMBERS + GREAT + ("40", "lone"):
                self.refused(1, read_log, f"{word} {bad}")
                self.refused(1, read_log, f"{word} {bad} x")
                self.refused(4, read_log, f"many 0 1 {word} {bad}")

    def test_both_places_of_many(self):
        for a in range(41):
            for b in range(41):
                if a < b < 40:
                    self.assertEqual(read_log(f"many {a} {b}"), [("many", a, b)])
                else:
                    self.refused(1 if a == 40 else 2, read_log, f"many {a} {b}")
        for bad in NO_NUMBERS + GREAT + ("40", "lone"):
            self.refused(1, read_log, f"many {bad} 1")
            self.refused(1, read_log, f"many {bad} {bad}")
            self.refused(1, read_log, f"many {bad}")
            self.refused(2, read_log, f"many 0 {bad}")
            self.refused(2, read_log, f"many 39 {bad} x")
        self.refused(4, read_log, "two 3 many 5 5 lone 0")

    def test_more_numbers_than_a_step_has(self):
        self.refused(2, read_log, "lone 0 1")
        self.refused(3, read_log, "many 0 1 2")
        self.refused(2, read_log, "lone 0 ")
        self.refused(1, read_log, "lone  0")
        self.refused(2, read_log, "lone 0  two 1")

    def test_the_301st_step(self):
        for step, count in (("lone 7", 2), ("many 38 39", 3)):
            text = " ".join([step] * 300)
            self.assertEqual(len(read_log(text)), 300)
            for more in (" lone 0", " many 0 1", " x", " ", " lone", " many 1 0"):
                self.refused(300 * count, read_log, text + more)
            short = " ".join([step] * 299)
            self.refused(299 * count, read_log, short + " x lone 0")
            self.refused(299 * count + 1, read_log, short + " loop")
        mixed = drawn_log(random.Random(1821), 300)
        text = log_text(mixed)
        self.refused(len(text.split(" ")), read_log, text + " lone 0")


class Named(unittest.TestCase):
    def test_arguments_by_their_names(self):
        self.assertEqual(web_text(web=(1, ((0, 0),))), "web 1 0-0")
        self.assertEqual(oneway_text(web=(1, ((0, 0),))), "ways 1 0>0")
        self.assertEqual(numbers_text(row=[1, 2]), "1 2")
        self.assertEqual(log_text(log=[("lone", 2)]), "lone 2")
        self.assertEqual(read_web(thing="web 1 0-0"), (1, ((0, 0),)))
        self.assertEqual(read_oneway(thing="ways 1 0>0"), (1, ((0, 0),)))
        self.assertEqual(read_numbers(thing="1 2"), (1, 2))
        self.assertEqual(read_log(thing="lone 2"), [("lone", 2)])


if __name__ == "__main__":
    unittest.main()
