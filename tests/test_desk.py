"""14.3 and 14.4: the desk, and 0.2, 0.4 as far as they speak of it."""

import random
import unittest

from ringfell.desk import WebDesk
from ringfell.errors import NoBack, NoRow, NoText, NoTie, TooMany, WebError
from tests.helpers import (FAR, all_sets, circle, drawn_web, joined, plain_clears, plain_cut, plain_order, plain_ring,
                           plain_web, small_webs, soon, theta, whole_web)
from tests.trees import ROUNDS, plain_least
from tests.ways import (circled, drawn_oneway, oneway, plain_free, plain_rest, plain_round, plain_together, small_oneways,
                        whole_oneway)

QUESTIONS = ("tell", "tellways", "peel", "kinds", "sets", "ranks", "knots", "order")
SET_ROWS = ("cut", "cutways", "clears", "fewest", "fewestways")
PAIR_ROWS = ("tie", "untie", "arrow", "drop")


def written(web):
    return " ".join([f"web {web[0]}"] + [f"{a}-{b}" for a, b in web[1]])


def written_ways(web):
    return " ".join([f"ways {web[0]}"] + [f"{a}>{b}" for a, b in web[1]])


def written_row(row):
    return " ".join(str(number) for number in row) or "-"


class Said(unittest.TestCase):
    def desk(self, web=None, ways=None):
        desk = WebDesk()
        if web is not None:
            self.assertEqual(desk.say(written(web)), "ok")
        if ways is not None:
            self.assertEqual(desk.say(written_ways(ways)), "ok")
        return desk

    def kept(self, desk):
        return (desk.say("tell"), desk.say("tellways"))

    def refused(self, error, desk, row):
        """What is refused changes nothing."""
        before = self.kept(desk)
        with self.assertRaises(error) as caught:
            desk.say(row)
        self.assertIs(type(caught.exception), error)
        self.assertEqual(self.kept(desk), before)
        return caught.exception


class Deeds(Said):
    def test_at_first_both_are_without_places(self):
        desk = WebDesk()
        self.assertEqual(self.kept(desk), ("web 0", "ways 0"))

    def test_web_and_ways(self):
        desk = WebDesk()
        ways = (0, ())
        for web in small_webs(1901, 30):
            self.assertEqual(desk.say(written(web)), "ok")
            self.assertEqual(self.kept(desk), (written(web), written_ways(ways)))
            ways = drawn_oneway(random.Random(len(web[1])), 4, 5)
            self.assertEqual(desk.say(written_ways(ways)), "ok")
            self.assertEqual(self.kept(desk), (written(web), written_ways(ways)))

    def test_tie_and_untie(self):
        desk = self.desk((3, ((0, 1),)), (3, ((0, 1),)))
        for row, wanted in (("tie 2 0", "web 3 0-1 0-2"), ("tie 0 1", "web 3 0-1 0-1 0-2"), ("tie 2 2", "web 3 0-1 0-1 0-2 2-2"),
                            ("untie 1 0", "web 3 0-1 0-2 2-2"), ("untie 2 2", "web 3 0-1 0-2"),
                            ("untie 0 2", "web 3 0-1"), ("untie 0 1", "web 3")):
            self.assertEqual(desk.say(row), "ok")
            self.assertEqual(self.kept(desk), (wanted, "ways 3 0>1"))
        for row in ("untie 0 1", "untie 2 2", "untie 2 0"):
            self.refused(NoTie, desk, row)

    def test_arrow_and_drop(self):
        desk = self.desk((3, ((0, 1),)), (3, ((0, 1),)))
        for row, wanted in (("arrow 2 0", "ways 3 0>1 2>0"), ("arrow 0 1", "ways 3 0>1 2>0"),
                            ("arrow 2 2", "ways 3 0>1 2>0 2>2"), ("drop 2 2", "ways 3 0>1 2>0"),
                            ("arrow 1 0", "ways 3 0>1 1>0 2>0"), ("drop 0 1", "ways 3 1>0 2>0"),
                            ("drop 1 0", "ways 3 2>0")):
            self.assertEqual(desk.say(row), "ok")
            self.assertEqual(self.kept(desk), ("web 3 0-1", wanted))
        for row in ("drop 0 2", "drop 1 1", "drop 1 0"):
            self.refused(NoTie, desk, row)

    def test_cut_and_cutways(self):
        rng = random.Random(1902)
        for web in small_webs(1903, 20):
            ways = drawn_oneway(rng, 5, 9)
            for places in all_sets(web[0]):
                desk = self.desk(web, ways)
                self.assertEqual(desk.say("cut " + written_row(places)), "ok")
                self.assertEqual(self.kept(desk), (written(plain_cut(web, places)), written_ways(ways)))
            for places in all_sets(5):
                desk = self.desk(web, ways)
                self.assertEqual(desk.say("cutways " + written_row(places)), "ok")
                self.assertEqual(self.kept(desk), (written(web), written_ways(plain_rest(ways, places))))

    def test_two_hundred_and_one_more(self):
        desk = self.desk(plain_web(40, [(3, 30)] * 199), oneway(40, [(a, b) for a in range(5) for b in range(40)][:199]))
        self.assertEqual(desk.say("tie 0 1"), "ok")
        self.refused(TooMany, desk, "tie 0 1")
        self.assertEqual(desk.say("arrow 39 39"), "ok")
        self.assertEqual(desk.say("arrow 39 39"), "ok")
        self.refused(TooMany, desk, "arrow 39 38")
        self.assertEqual(desk.say("untie 0 1"), "ok")
        self.assertEqual(desk.say("tie 0 1"), "ok")


class Back(Said):
    def test_back_to_the_very_first_and_one_more(self):
        desk = WebDesk()
        rows = ["web 3 0-1", "ways 2 0>1", "tie 1 2", "arrow 1 0", "cut 0", "untie 1 2", "drop 0 1", "cutways 1",
                "web 0", "ways 0", "arrow 0 0", "cut -"]
        seen = [self.kept(desk)]
        for row in rows:
            try:
                self.assertEqual(desk.say(row), "ok")
                seen.append(self.kept(desk))
            except NoRow:
                # Without places there is nothing that an arrow could stand at.
                self.assertEqual(row, "arrow 0 0")
        while len(seen) > 1:
            self.assertEqual(self.kept(desk), seen.pop())
            self.assertEqual(desk.say("back"), "ok")
        self.assertEqual(self.kept(desk), seen[0])
        self.refused(NoBack, desk, "back")
        self.refused(NoBack, desk, "back")
        self.assertEqual(desk.say("web 1"), "ok")
        self.assertEqual(desk.say("back"), "ok")
        self.refused(NoBack, desk, "back")

    def test_a_deed_that_changes_nothing_is_one(self):
        desk = self.desk(None, (2, ((0, 1),)))
        for row in ("arrow 0 1", "cutways -", "ways 2 0>1", "cut -", "web 0"):
            self.assertEqual(desk.say(row), "ok")
        for k in range(5):
            self.assertEqual(desk.say("back"), "ok")
            self.assertEqual(desk.say("tellways"), "ways 2 0>1")
        self.assertEqual(desk.say("back"), "ok")
        self.assertEqual(desk.say("tellways"), "ways 0")

    def test_what_is_refused_and_questions_are_no_deeds(self):
        desk = self.desk((3, ((0, 1),)))
        self.assertEqual(desk.say("tie 1 2"), "ok")
        for error, row in ((NoRow, "tie 0 3"), (NoTie, "untie 0 2"), (NoText, "web 3 1-0"), (NoRow, "backs"),
                           (NoText, "ways"), (NoRow, "cut 2 1"), (NoRow, "back 1"), (NoRow, "")):
            self.refused(error, desk, row)
        for row in QUESTIONS + ("clears -", "fewest 0", "fewestways -"):
            desk.say(row)
        self.assertEqual(desk.say("back"), "ok")
        self.assertEqual(self.kept(desk), ("web 3 0-1", "ways 0"))
        self.assertEqual(desk.say("back"), "ok")
        self.assertEqual(self.kept(desk), ("web 0", "ways 0"))
        self.refused(NoBack, desk, "back")

    def test_deeds_behind_a_step_back(self):
        desk = self.desk((2, ()))
        desk.say("tie 0 1")
        desk.say("back")
        desk.say("tie 1 1")
        self.assertEqual(desk.say("tell"), "web 2 1-1")
        desk.say("back")
        self.assertEqual(desk.say("tell"), "web 2")
        desk.say("back")
        self.assertEqual(desk.say("tell"), "web 0")
        self.refused(NoBack, desk, "back")

    def test_drawn_deeds(self):
        rng = random.Random(1911)
        for k in range(20):
            desk = WebDesk()
            seen = [self.kept(desk)]
            for n in range(60):
                row = rng.choice(("web 4 0-1", "ways 4 1>0", "tie 0 1", "untie 0 1", "cut 0", "arrow 2 3", "drop 2 3",
                                  "cutways 3", "back", "back", "back 1", "tie 0 4", "cut"))
                try:
                    self.assertEqual(desk.say(row), "ok")
                except WebError:
                    self.assertEqual(self.kept(desk), seen[-1])
                    if row == "back":
                        self.assertEqual(len(seen), 1)
                else:
                    if row == "back":
                        seen.pop()
                    else:
                        seen.append(self.kept(desk))
                    self.assertEqual(self.kept(desk), seen[-1])

    def test_many_deeds(self):
        desk = self.desk((2, ()))
        with soon():
            for k in range(200):
                self.assertEqual(desk.say("tie 0 1"), "ok")
            for k in range(200):
                self.assertEqual(desk.say("back"), "ok")
        self.assertEqual(desk.say("tell"), "web 2")


class Beside(Said):
    def test_two_desks_beside_one_another(self):
        one = WebDesk()
        other = WebDesk()
        one.say("web 3 0-1")
        self.assertEqual(self.kept(other), ("web 0", "ways 0"))
        other.say("ways 2 0>1")
        self.assertEqual(self.kept(one), ("web 3 0-1", "ways 0"))
        self.assertEqual(other.say("back"), "ok")
        self.refused(NoBack, other, "back")
        self.assertEqual(one.say("back"), "ok")
        self.refused(NoBack, one, "back")


class Questions(Said):
    def test_peel(self):
        for web in small_webs(1921, 80):
            answer = self.desk(web).say("peel").split(" ")
            self.assertEqual(answer[0], "wood" if plain_clears(web, ()) else "ring")
            numbers = [] if answer[1:] == ["-"] else [int(word) for word in answer[1:]]
            self.assertEqual(answer[1:], written_row(numbers).split(" "))
            if answer[0] == "wood":
                self.assertTrue(plain_order(web, numbers))
            else:
                self.assertTrue(plain_ring(web, tuple(numbers)))

    def test_clears(self):
        for web in small_webs(1922, 40):
            desk = self.desk(web)
            for places in all_sets(web[0]):
                wanted = "yes" if plain_clears(web, places) else "no"
                self.assertEqual(desk.say("clears " + written_row(places)), wanted)

    def test_fewest(self):
        for web in small_webs(1923, 40):
            desk = self.desk(web)
            for kept in all_sets(web[0]):
                least = plain_least(web, [1] * web[0], kept)
                self.assertEqual(desk.say("fewest " + written_row(kept)), "never" if least is None else str(least))

    def test_fewestways(self):
        for web in small_oneways(1924, 40):
            desk = self.desk(None, web)
            for kept in all_sets(web[0]):
                least = plain_least(web, [1] * web[0], kept, ROUNDS)
                self.assertEqual(desk.say("fewestways " + written_row(kept)), "never" if least is None else str(least))

    def test_kinds_and_sets(self):
        for web in small_webs(1925, 60):
            clearing = [places for places in all_sets(web[0]) if plain_clears(web, places)]
            least = [places for places in clearing if not any(set(other) < set(places) for other in clearing)]
            size = min(len(places) for places in clearing)
            words = []
            for place in range(web[0]):
                having = {place in places for places in clearing if len(places) == size}
                words.append("some" if len(having) == 2 else "all" if True in having else "none")
            desk = self.desk(web)
            self.assertEqual(desk.say("kinds"), " ".join(words) or "-")
            self.assertEqual(desk.say("sets"), str(len(least)))

    def test_ranks_and_knots(self):
        for web in small_oneways(1926, 80):
            desk = self.desk(None, web)
            answer = desk.say("ranks").split(" ")
            self.assertEqual(answer[0], "ranks" if plain_free(web) else "round")
            numbers = [] if answer[1:] == ["-"] else [int(word) for word in answer[1:]]
            self.assertEqual(answer[1:], written_row(numbers).split(" "))
            if answer[0] == "ranks":
                self.assertEqual(sorted(numbers), list(range(web[0])))
                self.assertTrue(all(numbers.index(a) < numbers.index(b) for a, b in web[1]))
            else:
                self.assertTrue(plain_round(web, tuple(numbers)))
            knots = {tuple(q for q in range(web[0]) if plain_together(web[1], p, q)) for p in range(web[0])}
            self.assertEqual(desk.say("knots"), str(len(knots)))

    def test_order(self):
        desk = self.desk(None, circled(7))
        self.assertEqual(desk.say("order"), "1")
        self.assertEqual(self.desk(None, whole_oneway(5)).say("order"), "10")
        self.assertEqual(self.desk(None, oneway(3, [(0, 0), (1, 1), (0, 1)])).say("order"), "2")
        self.assertEqual(self.desk(None, (7, ())).say("order"), "0")

    def test_without_places(self):
        desk = WebDesk()
        for row, wanted in (("tell", "web 0"), ("tellways", "ways 0"), ("peel", "wood -"), ("clears -", "yes"),
                            ("fewest -", "0"), ("kinds", "-"), ("sets", "1"), ("ranks", "ranks -"), ("knots", "0"),
                            ("fewestways -", "0"), ("order", "0"), ("cut -", "ok"), ("cutways -", "ok")):
            self.assertEqual(desk.say(row), wanted)

    def test_named_answers(self):
        desk = self.desk(joined(circle(3), (1, ((0, 0),))), oneway(4, [(3, 1), (1, 0)]))
        for row, wanted in (("clears 0", "no"), ("clears 0 3", "yes"), ("fewest -", "2"), ("fewest 0 1", "2"),
                            ("fewest 3", "never"), ("kinds", "some some some all"), ("sets", "3"),
                            ("ranks", "ranks 2 3 1 0"), ("knots", "4"), ("fewestways 0 1 2 3", "0"), ("order", "0")):
            self.assertEqual(desk.say(row), wanted)
        self.assertEqual(self.desk((1, ((0, 0),))).say("peel"), "ring 0")
        self.assertEqual(self.desk((1, ())).say("peel"), "wood 0")
        self.assertEqual(self.desk(None, (1, ((0, 0),))).say("ranks"), "round 0")
        self.assertEqual(self.desk((40, ())).say("fewest " + written_row(range(40))), "0")

    def test_rows_speak_of_their_own_web(self):
        desk = self.desk((4, ((0, 1),)), (2, ((0, 1),)))
        self.assertEqual(desk.say("clears 3"), "yes")
        self.refused(NoRow, desk, "fewestways 3")
        self.refused(NoRow, desk, "cutways 2")
        self.refused(NoRow, desk, "arrow 0 2")
        self.assertEqual(desk.say("tie 3 3"), "ok")
        other = self.desk((2, ((0, 1),)), (4, ((0, 1),)))
        self.refused(NoRow, other, "clears 3")
        self.refused(NoRow, other, "tie 3 3")
        self.assertEqual(other.say("arrow 3 3"), "ok")


class Refused(Said):
    def test_other_words(self):
        desk = self.desk((3, ((0, 1),)), (3, ((0, 1),)))
        for row in ("", " ", "  ", "tel", "Tell", "TELL", "tells", "webs 3", "way 3", "wayss 3", "Web 3", "-", "0", "0-1",
                    "ties 0 1", "rank", "round", "wood", "ok", "peeled", "backs", "undo", "help", "~", "%", "cut%", "web%",
                    "web-3", "\"tell\"", "tell;tell", "two 0", "lone 0", "many 0 1", "\\", "{}", "yes"):
            self.refused(NoRow, desk, row)

    def test_more_and_empty_words(self):
        desk = self.desk((3, ((0, 1),)), (3, ((0, 1),)))
        for word in QUESTIONS + ("back",):
            for row in (word + " ", " " + word, word + " 0", word + " -", word + "  ", word + " " + word, word + " 0 1"):
                self.refused(NoRow, desk, row)
        for word in PAIR_ROWS:
            for row in ("", " ", " 0", " 0 ", "  0 1", " 0  1", " 0 1 ", " 0 1 2", " 0 1 0", " -", " 0 -", " - 0", " 0-1",
                        " 0>1", " 0,1"):
                self.refused(NoRow, desk, word + row)
            self.refused(NoRow, desk, " " + word + " 0 1")
        for word in SET_ROWS:
            for row in ("", " ", "  ", "  0", " 0 ", " 0  1", " - ", " - 0", " 0 -", " - -", " 0-1", " (0)", " 0,1"):
                self.refused(NoRow, desk, word + row)
            self.refused(NoRow, desk, " " + word + " -")

    def test_what_is_no_place(self):
        desk = self.desk((3, ((0, 1),)), (3, ((0, 1),)))
        for bad in ("3", "4", "40", "41", "-1", "+1", "00", "01", "a", "1.0", str(FAR), str(10 ** 60 + 1), "9" * 1000,
                    "9" * 5000, "0x0", "1_0", "''"):
            for word in PAIR_ROWS:
                self.refused(NoRow, desk, f"{word} 0 {bad}")
                self.refused(NoRow, desk, f"{word} {bad} 0")
            for word in SET_ROWS:
                self.refused(NoRow, desk, f"{word} {bad}")
                self.refused(NoRow, desk, f"{word} 0 {bad}")
                self.refused(NoRow, desk, f"{word} 0 1 2 {bad}")

    def test_what_is_no_set(self):
        desk = self.desk((3, ((0, 1),)), (3, ((0, 1),)))
        for word in SET_ROWS:
            for row in ("0 0", "1 0", "0 2 1", "2 2", "0 1 1", "0 1 2 2", "0 1 2 0", " ".join(["0"] * 61)):
                self.refused(NoRow, desk, f"{word} {row}")

    def test_without_places_there_is_no_place(self):
        desk = WebDesk()
        for word in PAIR_ROWS:
            self.refused(NoRow, desk, word + " 0 0")
        for word in SET_ROWS:
            self.refused(NoRow, desk, word + " 0")

    def test_web_and_ways_with_no_text(self):
        desk = self.desk((3, ((0, 1),)), (3, ((0, 1),)))
        for row, at in (("web", 1), ("web ", 1), ("web x", 1), ("web 41", 1), ("web 3 0-3", 2), ("web 3 1-0", 2),
                        ("web 3 0>1", 2), ("web 3 0-1 0-0", 3), ("web  3", 1), ("web 3 ", 2), ("web -", 1), ("web web", 1),
                        ("ways", 1), ("ways ", 1), ("ways 03", 1), ("ways 3 0-1", 2), ("ways 3 0>1 0>1", 3),
                        ("ways 3 0>1 0>0", 3), ("ways 3 0>1 ", 3), ("ways  ", 1), ("ways 3 %", 2), ("web %", 1),
                        ("web 40" + " 0-0" * 201, 202), ("web " + "9" * 6000, 1)):
            self.assertEqual(self.refused(NoText, desk, row).at, at)

    def test_as_the_functions_refuse(self):
        desk = self.desk(whole_web(15), circled(15))
        self.refused(TooMany, desk, "fewest -")
        self.refused(TooMany, desk, "fewestways -")
        self.assertEqual(desk.say("fewest 0"), "13")
        self.assertEqual(desk.say("fewestways 0"), "1")
        for row in ("kinds", "sets", "order"):
            self.refused(TooMany, desk, row)
        nine = self.desk(joined(circle(9), (31, ())), (8, ()))
        self.assertEqual(nine.say("sets"), "9")
        self.assertEqual(nine.say("kinds"), " ".join(["some"] * 9 + ["none"] * 31))
        self.refused(TooMany, nine, "order")
        ten = self.desk(circle(10), (7, ()))
        self.refused(TooMany, ten, "sets")
        self.refused(TooMany, ten, "kinds")
        self.assertEqual(ten.say("order"), "0")

    def test_no_row_goes_ahead(self):
        desk = self.desk(whole_web(15), circled(15))
        for row in ("fewest 15", "fewest", "fewestways 1 0", "kinds 0", "sets -", "order 1", "untie 0 15", "back back"):
            self.refused(NoRow, desk, row)
        self.refused(NoRow, WebDesk(), "back 0")


class Answers(Said):
    def test_each_answer_is_a_text(self):
        rng = random.Random(1931)
        desk = self.desk(drawn_web(rng, 6, 9), drawn_oneway(rng, 6, 9))
        for row in QUESTIONS + ("clears 0", "fewest -", "fewestways -", "tie 0 1", "untie 0 1", "arrow 0 1", "drop 0 1",
                                "cut 0", "cutways 0", "back"):
            self.assertIs(type(desk.say(row)), str)
            before = [desk.say(question) for question in QUESTIONS]
            self.assertEqual([desk.say(question) for question in QUESTIONS], before)

    def test_large_webs(self):
        rng = random.Random(1932)
        desk = self.desk(drawn_web(rng, 40, 200), drawn_oneway(rng, 40, 200))
        with soon():
            for row in ("peel", "ranks", "knots", "tell", "tellways", "clears " + written_row(range(40)),
                        "fewest " + written_row(range(26)), "fewestways " + written_row(range(26))):
                desk.say(row)
        self.assertEqual(self.desk(theta(38)).say("fewest " + written_row(range(14, 40))), "1")

    def test_arguments_by_their_names(self):
        desk = WebDesk()
        self.assertEqual(desk.say(row="web 1 0-0"), "ok")
        self.assertEqual(desk.say(row="tell"), "web 1 0-0")


if __name__ == "__main__":
    unittest.main()
