"""0.1 to 0.6 over the whole program: names, arguments, what is handed in and told, the refusals, the promise."""

import copy
import importlib
import inspect
import random
import unittest
from itertools import combinations, permutations

from ringfell import errors
from ringfell.apart import apart_right, apart_rings
from ringfell.boards import board_cut, board_right
from ringfell.casejudge import tree_shows
from ringfell.cases import least_cut
from ringfell.clears import clears_web, shown_clear
from ringfell.crossings import bare_rings, crossed_sets
from ringfell.desk import WebDesk
from ringfell.layerjudge import paper_bound
from ringfell.layers import two_times
from ringfell.leastsets import least_sets
from ringfell.lifting import lift_places, push_places
from ringfell.onecases import one_least
from ringfell.onejudge import one_shows
from ringfell.onerules import lift_cut, push_cut, ruled_onelog
from ringfell.oneways import both_ways, is_round
from ringfell.orders import least_order, table_shows
from ringfell.ranks import ranked_web, ranks_right
from ringfell.rings import is_ring
from ringfell.rules import ruled_log
from ringfell.threes import parting_twice, three_cut
from ringfell.turning import arrows_clear, order_without, thinned_arrows, thinned_right, turned_about
from tests.helpers import all_sets, circle, drawn_plain, joined, small_webs, three_tied, whole_web
from tests.test_boards import drawn_board
from tests.trees import drawn_weights, weigh
from tests.ways import circled, few_arrows, oneway, plain_free, small_oneways

WEB = (5, ((0, 1), (0, 2), (1, 2), (2, 3), (3, 3), (3, 4), (3, 4)))
THREE = (4, whole_web(4)[1])
WAYS = (4, ((0, 1), (1, 0), (1, 2), (2, 0), (2, 3), (3, 3)))
BOARD = (6, ((0, 1), (1, 0), (1, 4), (3, 0), (4, 3), (4, 5)))
BEGUN = ((0, 1, 2), ((0, 1, ()), (0, 2, ()), (1, 2, ())), ())
ONEBEGUN = ((0, 1, 2), ((0, 1, ()), (1, 2, ()), (2, 0, ())), ())
LAYER = ("ring", (0, 1, 2), (1, 1))
TREE = ("part", 0, ("shares", [((3,), 1)]), ("shares", [((0, 1, 2), 1), ((3,), 1)]))
ONETREE = ("part", 3, ("shares", [((0, 1), 1)]), ("shares", []))
TABLE = [((), 0), ((0,), 0), ((0, 1), 2), ((1,), 0)]
BOTH = (2, ((0, 1), (1, 0)))

# The interface, file by file: each function with its arguments by name, and things to hand in.
ASKED = {
    "webs": [
        ("made_web", {"many": 3, "ties": [[2, 1], (0, 0)]}), ("ties_at", {"web": WEB, "place": 3}),
        ("near_places", {"web": WEB, "place": 2}), ("tied_times", {"web": WEB, "one": 4, "other": 3}),
        ("ties_within", {"web": WEB, "places": (0, 1, 2)}), ("cut_web", {"web": WEB, "places": (2,)}),
        ("renamed_web", {"web": WEB, "order": [4, 3, 2, 1, 0]}), ("side_by_side", {"one": WEB, "other": THREE}),
        ("put_tie", {"web": WEB, "one": 4, "other": 0}), ("less_tie", {"web": WEB, "one": 4, "other": 3}),
        ("hanging_parts", {"web": WEB}), ("spare_ties", {"web": WEB}),
    ],
    "rings": [("is_ring", {"web": WEB, "ring": (1, 2, 0)}), ("ring_form", {"ring": (3, 1, 2)}),
              ("all_rings", {"web": WEB}), ("least_ring", {"web": WEB})],
    "woods": [("peeled_web", {"web": (3, ((0, 1),))}), ("peel_right", {"web": (2, ((0, 1),)), "order": [1, 0]})],
    "clears": [
        ("clears_web", {"web": WEB, "places": (0, 3)}), ("shown_clear", {"web": WEB, "places": (0, 3)}),
        ("own_ring", {"web": WEB, "places": (0, 3), "place": 0}), ("thinned_cut", {"web": WEB, "places": (0, 1, 3)}),
        ("least_right", {"web": WEB, "rows": [(0, (0, 1, 2)), (3, (3,))]}),
    ],
    "rules": [
        ("begin_rules", {"web": WEB}), ("steps_now", {"state": BEGUN}),
        ("rule_step", {"state": BEGUN, "step": ("two", 0)}), ("run_log", {"web": circle(3), "log": [("two", 1)]}),
        ("ruled_log", {"web": WEB}), ("core_web", {"web": circle(3), "state": BEGUN}),
    ],
    "lifting": [
        ("lift_places", {"web": WEB, "log": [("loop", 3)], "places": (0,)}),
        ("lift_ring", {"web": WEB, "log": [("loop", 3), ("two", 0)], "ring": (1, 2)}),
        ("push_places", {"web": WEB, "log": [("loop", 3)], "places": (0, 3)}),
    ],
    "shorts": [("moore_least", {"g": 5}), ("short_most", {"many": 100})],
    "apart": [("apart_rings", {"web": WEB}), ("are_apart", {"web": WEB, "rings": [(0, 1, 2), (3,)]}),
              ("apart_right", {"web": WEB, "rings": [(0, 1, 2), (3,)], "places": (0, 3)})],
    "cases": [("least_cut", {"web": WEB, "weights": [1, 2, 3, 4, 5], "kept": (0,)})],
    "casejudge": [("tree_shows", {"web": WEB, "weights": [1, 2, 3, 4, 5], "kept": (), "tree": TREE})],
    "ratios": [
        ("ratio_of", {"top": 6, "bottom": 4}), ("ratio_plus", {"one": (1, 2), "other": (1, 3)}),
        ("ratio_minus", {"one": (1, 2), "other": (1, 3)}), ("ratio_times", {"one": (1, 2), "other": (4, 3)}),
        ("ratio_less", {"one": (1, 2), "other": (1, 3)}), ("is_ratio", {"thing": (2, 4)}),
    ],
    "layerjudge": [("layer_takes", {"web": WEB, "layer": LAYER}), ("layer_bound", {"web": WEB, "layer": LAYER}),
                   ("paper_bound", {"web": WEB, "weights": [1, 1, 1, 1, 1], "paper": [LAYER]})],
    "layers": [("two_times", {"web": WEB, "weights": [1, 2, 3, 4, 5]})],
    "threes": [
        ("three_cut", {"web": THREE}), ("parting_twice", {"web": THREE, "parts": [(0, 1, 2, 3)]}),
        ("three_counts", {"web": THREE, "places": (0, 1)}),
        ("parting_rows", {"web": THREE, "places": (0, 1), "parts": [(0, 1), (2, 3)]}),
    ],
    "leastsets": [("least_sets", {"web": WEB}), ("place_kinds", {"web": WEB}), ("clear_counts", {"web": WEB})],
    "crossings": [("crossed_sets", {"sets": [(0, 1), (1, 2)]}), ("bare_rings", {"web": WEB})],
    "oneways": [
        ("made_oneway", {"many": 3, "arrows": [[2, 1], (0, 0)]}), ("arrows_out", {"web": WAYS, "place": 1}),
        ("arrows_in", {"web": WAYS, "place": 0}), ("cut_oneway", {"web": WAYS, "places": (1,)}),
        ("put_arrow", {"web": WAYS, "one": 3, "other": 0}), ("less_arrow", {"web": WAYS, "one": 2, "other": 3}),
        ("turned_arrows", {"web": WAYS}), ("both_ways", {"web": WEB}),
        ("is_round", {"web": WAYS, "places": (1, 2, 0)}), ("round_form", {"places": (2, 0, 1)}),
        ("all_rounds", {"web": WAYS}),
    ],
    "ranks": [
        ("ranked_web", {"web": oneway(3, [(2, 0)])}), ("ranks_right", {"web": oneway(3, [(2, 0)]), "order": (1, 2, 0)}),
        ("knots_of", {"web": WAYS}), ("clears_oneway", {"web": WAYS, "places": (0, 3)}),
        ("round_off", {"web": WAYS, "places": (3,)}),
    ],
    "onerules": [
        ("begin_onerules", {"web": WAYS}), ("onesteps_now", {"state": ONEBEGUN}),
        ("onerule_step", {"state": ONEBEGUN, "step": ("in", 1)}), ("run_onelog", {"web": WAYS, "log": [("loop", 3)]}),
        ("ruled_onelog", {"web": WAYS}), ("onecore_web", {"web": WAYS, "log": [("loop", 3)]}),
        ("lift_cut", {"web": WAYS, "log": [("loop", 3)], "places": (0,)}),
        ("push_cut", {"web": WAYS, "log": [("loop", 3)], "places": (0, 3)}),
        ("lift_round", {"web": WAYS, "log": [("in", 2)], "places": (1, 0)}),
    ],
    "onecases": [("one_least", {"web": WAYS, "weights": [1, 2, 3, 4], "kept": (0,)})],
    "onejudge": [("one_shows", {"web": WAYS, "weights": [1, 2, 3, 4], "kept": (), "tree": ONETREE})],
    "orders": [
        ("back_arrows", {"web": WAYS, "order": [3, 1, 0, 2]}),
        ("back_weight", {"web": WAYS, "worths": [1, 2, 3, 4, 5, 6], "order": [3, 1, 0, 2]}),
        ("least_order", {"web": WAYS, "worths": [1, 2, 3, 4, 5, 6]}),
        ("table_shows", {"web": BOTH, "worths": [3, 2], "weight": 2, "table": TABLE}),
    ],
    "turning": [
        ("arrows_clear", {"web": WAYS, "arrows": ((0, 1), (3, 3))}),
        ("turned_about", {"web": WAYS, "arrows": ((0, 1), (2, 3))}),
        ("thinned_arrows", {"web": WAYS, "arrows": ((0, 1), (1, 2), (3, 3))}),
        ("thinned_right", {"web": BOTH, "rows": [((0, 1), (0, 1))]}),
        ("order_without", {"web": WAYS, "arrows": ((0, 1), (3, 3))}),
    ],
    "boards": [
        ("is_board", {"rows": 2, "columns": 3, "web": BOARD}), ("board_cut", {"rows": 2, "columns": 3, "web": BOARD}),
        ("board_right", {"rows": 1, "columns": 2, "web": BOTH, "arrows": ((0, 1),), "rounds": [(0, 1)]}),
    ],
    "texts": [
        ("web_text", {"web": WEB}), ("oneway_text", {"web": WAYS}), ("numbers_text", {"row": [3, 1, 2]}),
        ("log_text", {"log": [("lone", 3), ("many", 0, 1)]}), ("read_web", {"thing": "web 2 0-1"}),
        ("read_oneway", {"thing": "ways 2 1>0"}), ("read_numbers", {"thing": "3 1 2"}),
        ("read_log", {"thing": "lone 3 many 0 1"}),
    ],
}


def asked():
    for name in ASKED:
        module = importlib.import_module("ringfell." + name)
        for function, handed in ASKED[name]:
            yield getattr(module, function), handed


def lists_in(thing):
    """All lists in a thing, itself too."""
    found = [thing] if isinstance(thing, list) else []
    if isinstance(thing, (list, tuple)):
        for part in thing:
            found += lists_in(part)
    return found


class Asked(unittest.TestCase):
    def test_arguments_by_their_places_and_by_their_names_in_any_order(self):
        for function, handed in asked():
            with self.subTest(function.__name__):
                self.assertEqual(list(inspect.signature(function).parameters), list(handed))
                wanted = function(*copy.deepcopy(list(handed.values())))
                for names in list(permutations(handed))[:24]:
                    things = {name: copy.deepcopy(handed[name]) for name in names}
                    self.assertEqual(function(**things), wanted)

    def test_a_ratio_of_a_whole_number(self):
        ratio_of = importlib.import_module("ringfell.ratios").ratio_of
        self.assertEqual(ratio_of(7), (7, 1))
        self.assertEqual(ratio_of(top=-7), (-7, 1))

    def test_nothing_that_is_handed_in_is_changed_nor_kept(self):
        for function, handed in asked():
            with self.subTest(function.__name__):
                things = copy.deepcopy(handed)
                told = function(**things)
                self.assertEqual(things, handed)
                kept = copy.deepcopy(told)
                given = lists_in(list(things.values()))[1:]
                for one in lists_in(told):
                    self.assertFalse([row for row in given if row is one])
                for row in given:
                    row.clear()
                self.assertEqual(told, kept)
                self.assertEqual(function(**copy.deepcopy(handed)), kept)

    def test_told_lists_are_new_ones(self):
        met = 0
        for function, handed in asked():
            with self.subTest(function.__name__):
                told = function(**copy.deepcopy(handed))
                kept = copy.deepcopy(told)
                rows = lists_in(told)
                self.assertEqual(len({id(row) for row in rows}), len(rows))
                for row in rows:
                    row.append("another")
                    row.reverse()
                again = function(**copy.deepcopy(handed))
                self.assertEqual(again, kept)
                self.assertFalse([one for one in lists_in(again) if [row for row in rows if row is one]])
                met += len(rows)
        self.assertGreater(met, 20)

    def test_lists_and_tuples_are_handed_in_alike(self):
        for function, handed in asked():
            with self.subTest(function.__name__):
                wanted = function(**copy.deepcopy(handed))
                for name in handed:
                    if isinstance(handed[name], list):
                        things = dict(copy.deepcopy(handed))
                        things[name] = tuple(things[name])
                        self.assertEqual(function(**things), wanted)

    def test_the_same_asked_again_is_told_alike(self):
        for function, handed in asked():
            self.assertEqual(function(**copy.deepcopy(handed)), function(**copy.deepcopy(handed)))

    def test_the_desk(self):
        self.assertEqual(list(inspect.signature(WebDesk).parameters), [])
        self.assertEqual(list(inspect.signature(WebDesk().say).parameters), ["row"])


class Refusals(unittest.TestCase):
    NUMBERED = ("BadWeb", "NoStep", "NoText")
    WORDED = ("TooMany", "NoTie", "NoRing", "NotClear", "NotThree", "BadBoard", "NoRow", "NoBack")

    def test_eleven_straight_beneath_weberror(self):
        own = [thing for name, thing in vars(errors).items() if inspect.isclass(thing)]
        self.assertEqual(sorted(thing.__name__ for thing in own), sorted(self.NUMBERED + self.WORDED + ("WebError",)))
        self.assertEqual(errors.WebError.__bases__, (ValueError,))
        for thing in own:
            if thing is not errors.WebError:
                self.assertEqual(thing.__bases__, (errors.WebError,))
        for one in own:
            for other in own:
                if errors.WebError not in (one, other) and one is not other:
                    self.assertFalse(issubclass(one, other))

    def test_what_they_are_made_of(self):
        for name in self.NUMBERED:
            self.assertEqual(getattr(errors, name)(at=7).at, 7)
        for name in self.WORDED:
            self.assertEqual(str(getattr(errors, name)("a text")), "a text")

    def test_each_is_raised_by_some_asking(self):
        from ringfell.lifting import lift_ring
        from ringfell.texts import read_web
        from ringfell.webs import less_tie, made_web
        desk = WebDesk()
        for name, function, handed in (
                ("BadWeb", made_web, (41, [])), ("NoStep", lift_ring, (WEB, [("lone", 0)], (0,))),
                ("NoText", read_web, ("",)), ("TooMany", made_web, (1, [(0, 0)] * 201)), ("NoTie", less_tie, (WEB, 0, 4)),
                ("NoRing", lift_ring, (WEB, [], (0,))), ("NotClear", thinned_arrows, (WAYS, ())),
                ("NotThree", three_cut, (WEB,)), ("BadBoard", board_cut, (2, 2, WEB)), ("NoRow", desk.say, ("",)),
                ("NoBack", desk.say, ("back",))):
            with self.assertRaises(errors.WebError) as caught:
                function(*handed)
            self.assertIs(type(caught.exception), getattr(errors, name))


class Promise(unittest.TestCase):
    """0.6, sentence by sentence, with the program's own judges."""

    def test_just_one_is_told_of_every_set(self):
        for web in small_webs(2001, 60, 5):
            for places in all_sets(web[0]):
                shown = shown_clear(web, places)
                self.assertEqual(shown[0] == "clears", clears_web(web, places))
                if shown[0] == "ring":
                    self.assertTrue(is_ring(web, shown[1]))
                    self.assertFalse(set(shown[1]) & set(places))

    def test_fewest_by_all_ways(self):
        for web in small_webs(2002, 80):
            fewest = least_cut(web, [1] * web[0], ())
            self.assertEqual(tree_shows(web, [1] * web[0], (), fewest[3]), ("least", fewest[1]))
            sets = least_sets(web)
            self.assertEqual(min(len(places) for places in sets), fewest[1])
            rings, places = apart_rings(web)
            self.assertTrue(apart_right(web, rings, places))
            self.assertLessEqual(len(rings), fewest[1])
            self.assertLessEqual(fewest[1], len(places))
            log = ruled_log(web)
            self.assertEqual(len(lift_places(web, log, push_places(web, log, fewest[2]))), fewest[1])
            # Taken both ways each ring is a round: so no fewer places will do.
            self.assertGreaterEqual(one_least(both_ways(web), [1] * web[0], ())[1], fewest[1])

    def test_within_twice(self):
        rng = random.Random(2003)
        for web in small_webs(2004, 80):
            weights = drawn_weights(rng, web[0])
            places, paper = two_times(web, weights)
            least = least_cut(web, weights, ())[1]
            bound = paper_bound(web, weights, paper)
            self.assertLessEqual(bound[0], least * bound[1])
            self.assertLessEqual(weigh(weights, places) * bound[1], 2 * bound[0])
            self.assertLessEqual(weigh(weights, places), 2 * least)

    def test_three_ties_at_each_place(self):
        for web, length in three_tied()[:2]:
            places, parts = three_cut(web)
            self.assertEqual(parting_twice(web, parts), 2 * len(places))
            self.assertEqual(len(places), least_cut(web, [1] * web[0], ())[1])

    def test_one_anothers_crossings(self):
        for web in small_webs(2005, 80):
            self.assertEqual(crossed_sets(bare_rings(web)), least_sets(web))
            self.assertEqual(crossed_sets(least_sets(web)), bare_rings(web))

    def test_one_way_webs(self):
        rng = random.Random(2006)
        for web in small_oneways(2007, 80):
            told = ranked_web(web)
            self.assertEqual(told[0] == "ranks", plain_free(web))
            self.assertTrue(ranks_right(web, told[1]) if told[0] == "ranks" else is_round(web, told[1]))
            weights = drawn_weights(rng, web[0])
            cut = one_least(web, weights, ())
            self.assertEqual(one_shows(web, weights, (), cut[3]), ("least", cut[1]))
        for web in few_arrows(2008, 80):
            fewest = one_least(web, [1] * web[0], ())
            log = ruled_onelog(web)
            self.assertEqual(len(lift_cut(web, log, push_cut(web, log, fewest[2]))), fewest[1])

    def test_orders_and_arrows(self):
        for web in few_arrows(2009, 60, 4, 8):
            weight, order, table = least_order(web, [1] * len(web[1]))
            self.assertTrue(table_shows(web, [1] * len(web[1]), weight, table))
            # The least weight of an order is that of a clearing set.
            clearing = [arrows for size in range(len(web[1]) + 1) for arrows in combinations(web[1], size)
                        if arrows_clear(web, arrows)]
            self.assertEqual(min(len(arrows) for arrows in clearing), weight)
            for arrows in clearing[:20]:
                rows = thinned_arrows(web, arrows)
                self.assertTrue(thinned_right(web, rows))
                self.assertEqual(sorted(order_without(web, arrows)), list(range(web[0])))
                thin = tuple(row[0] for row in rows)
                if not any(a == b for a, b in thin):
                    self.assertEqual(ranked_web(turned_about(web, thin))[0], "ranks")

    def test_boards(self):
        rng = random.Random(2010)
        for k in range(40):
            rows, columns = rng.choice(((1, 4), (2, 2), (2, 3), (3, 2), (1, 7)))
            web = drawn_board(rng, rows, columns)
            arrows, rounds = board_cut(rows, columns, web)
            self.assertTrue(board_right(rows, columns, web, arrows, rounds))
            self.assertEqual(len(arrows), least_order(web, [1] * len(web[1]))[0])

    def test_what_was_told_may_be_handed_in_again(self):
        web = joined(whole_web(7), whole_web(7))
        told = least_cut(web, [10 ** 60] * 14, ())
        self.assertEqual(tree_shows(web, [10 ** 60] * 14, (), told[3]), ("least", 10 ** 61))
        ways = oneway(7, [(a, b) for a in range(7) for b in range(7)])
        weight, order, table = least_order(ways, [10 ** 60] * 49)
        self.assertEqual(weight, 28 * 10 ** 60)
        self.assertTrue(table_shows(ways, [10 ** 60] * 49, weight, table))
        plain = drawn_plain(random.Random(2011), 10, 20)
        self.assertEqual(WebDesk().say("web 10 " + " ".join(f"{a}-{b}" for a, b in plain[1])), "ok")
        self.assertEqual(ranked_web(circled(3))[0], "round")


if __name__ == "__main__":
    unittest.main()
