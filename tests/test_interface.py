"""The interface: where its names are defined, and what they are passed."""

import importlib
import inspect
import unittest

from forkedshelves.desk import Desk
from forkedshelves.fewest import fewest_given_up
from forkedshelves.forest import Forest
from forkedshelves.forks import Fork, Part
from forkedshelves.history import History
from forkedshelves.journal import read_journal
from forkedshelves.listed import Ban
from forkedshelves.matching import most_disjoint
from forkedshelves.nests import Nest
from forkedshelves.pairs import Apart, Match, Needs, Order
from forkedshelves.rulebook import RuleBook
from forkedshelves.sums import AtLeast, AtMost, Total

FUNCTIONS = {
    "books": {"value_at": ["book", "place"], "with_writes": ["book", "writes"], "changes": ["base", "book"],
              "holds": ["book", "marks"]},
    "tight": {"tight_forks": ["rule", "bar"]},
    "blocks": {"blocks_with": ["depth", "place"], "least_cover": ["depth", "places"]},
    "compare": {name: ["forest", "first", "second"] for name in ("differing_places", "agreeing_blocks", "looked")},
    "copying": {"plan_copies": ["forest", "base", "plan"], "expected_copies": ["depth", "groups"]},
    "touching": {"touched": ["rulebook", "deed"], "independent": ["rulebook", "first", "second"]},
    "runs": {"play_run": ["rulebook", "book", "run"], "first_run": ["rulebook", "run"], "stages": ["rulebook", "run"]},
    "exchange": {"exchange_plan": ["rulebook", "first", "second"]},
    "picks": {"rests_on": ["rulebook", "run"], "pick": ["rulebook", "book", "run", "choice"]}
    | {name: ["rulebook", "run", "choice"] for name in ("with_needed", "with_dependents", "open_place")},
    "breaking": {"breaking_case": ["rulebook", "run", "choice"]},
    "heads": {name: ["history", "nodes"] for name in ("past", "clash_of", "merged_book")}
    | {name: ["history", "nodes", "place"] for name in ("heads", "found_values")},
    "fates": {"fate": ["history", "nodes", "node", "place"], "bearers": ["history", "nodes", "mark"],
              "own_places": ["history", "nodes", "position"]},
    "folds": {"last_common": ["history", "nodes"], "fold": ["history", "nodes"],
              "value_merge": ["base", "open_places", "first", "second"]},
    "faults": {"value_faults": ["history", "first", "second"], "base_faults": ["history", "first", "second", "base"],
               "unserved": ["history", "nodes", "base"]},
    "twomerge": {"merge_two": ["rulebook", "base", "first", "second"], "sides": ["first", "second", "bar"]},
    "clashes": {name: ["first", "second"] for name in ("clash_pairs", "inherited_pairs", "merge_parts")},
    "orders": {"least_clash": ["history", "tips"], "play_order": ["history", "order"],
               "two_orders": ["history", "tips"], "parting_places": ["history", "first", "second"]},
    "plans": {"plan_nodes": ["plan"], "play_plan": ["history", "plan"]},
    "cleanorder": {name: ["history", "tips"] for name in ("clean_order", "stuck_family", "ends")},
    "matching": {"most_disjoint": ["pairs", "favour"]},
    "fewest": {"fewest_given_up": ["first", "second", "favour"], "verdicts": ["first", "second"]},
    "freest": {"questions": ["first", "second"], "choices": ["first", "second", "question"],
               "freest_merges": ["first", "second"]},
    "settling": {name: ["rulebook", "base", "forks", "answers"] for name in ("settle", "settled_book")},
    "items": {"item_rules": ["count"], "arrange": ["book", "count"], "placing": ["item", "position", "content"],
              "moving": ["item", "position"], "changing": ["item", "content"], "removing": ["item"]},
    "positions": {"merge_positions": ["base", "first", "second"], "doubled": ["arrangement"]},
    "papers": {"paper_of": ["history", "nodes"], "orders_paper": ["history", "tips"],
               "stuck_paper": ["history", "tips"]},
    "looker": {"accepts": ["history", "nodes", "paper"]},
    "forkpapers": {"fewest_paper": ["first", "second"], "accepts_fewest": ["first", "second", "paper"],
                   "settled_paper": ["rulebook", "base", "forks", "answers"],
                   "accepts_settled": ["rulebook", "base", "forks", "answers", "paper"]},
    "shelving": {"node_leaves": ["history", "node"], "plant_node": ["forest", "history", "node"],
                 "shared_blocks": ["history", "depth", "first", "second"]},
    "lines": {"deed_text": ["deed"], "read_deed": ["text"]},
    "journal": {"read_journal": ["rulebook", "book", "lines", "depth"]},
}
RULE = {"is_bar": ["marks"], "keeps": ["book"], "bars_in": ["book"], "reason": ["book"]}
PREFERENCE = ["winner", "loser"]
CLASSES = {
    "listed": {"Ban": (["bars"], RULE)},
    "pairs": {"Apart": (["places"], RULE), "Needs": (["pairs"], RULE),
              "Match": (["first", "values", "second", "allowed"], RULE), "Order": (["first", "second", "gap"], RULE)},
    "sums": {"Total": (["places", "high"], RULE), "AtMost": (["places", "many"], RULE),
             "AtLeast": (["places", "many"], RULE)},
    "nests": {"Nest": (["places"], RULE)},
    "rulebook": {"RuleBook": (["rules"], {
        "__iter__": [], "largest_width": [], "reason": ["book"], "reasons": ["book"], "is_lawful": ["book"],
        "mates": ["place"], "wide_key": [], "bars_with": ["first", "second"]})},
    "forest": {"Forest": (["depth"], {
        "plant": ["leaves"], "write": ["tree", "writes", "stamp"], "merge": ["base", "first", "second"],
        "fell": ["tree"], "trees": [], "leaves": ["tree"], "book": ["tree"], "parts": ["tree"],
        "sharers": ["tree", "start", "size"], "part_count": [], "made": []})},
    "history": {"History": (["rulebook", "book"], {
        "write": ["parent", "writes"], "merge": ["parents", "answers"], "node_count": [], "parents": ["node"],
        "written": ["node"], "kind": ["node"], "book": ["node"], "clone": [], "__contains__": ["node"],
        "__iter__": []})},
    "forks": {"Fork": (["rulebook", "base", "book"], {
        "needs": [], "part": ["places"], "inside": ["places"], "whole": [], "all_parts": [], "road": []})},
    "answers": {"Answers": ([], {
        "prefer": PREFERENCE, "forget": PREFERENCE, "prefers": PREFERENCE, "clone": [], "__iter__": []})},
    "desk": {"Desk": (["rulebook", "book", "depth"], {
        "fork": ["name", "source"], "write": ["name", "writes"], "merge": ["name", "others", "answers"],
        "settle": ["name", "other"], "carry": ["name", "source", "places"], "drop": ["name"], "prefer": PREFERENCE,
        "forget": PREFERENCE, "names": [], "tip": ["name"], "part_count": [], "steps": [], "undone": [],
        "book": ["name"], "history": [], "answers": [], "journal": [], "attempt": ["deeds"], "undo": [], "redo": []})},
}
PART = {"book": [], "within": ["other"], "__or__": ["other"], "__and__": ["other"], "__contains__": ["place"],
        "__iter__": []}


def module(name):
    return importlib.import_module(f"forkedshelves.{name}")


class InterfaceTest(unittest.TestCase):
    def check_function(self, function, arguments, name):
        self.assertTrue(inspect.isfunction(function), name)
        self.assertEqual(list(inspect.signature(function).parameters), arguments, name)

    def test_functions_stand_in_their_files(self):
        for file, functions in FUNCTIONS.items():
            for name, arguments in functions.items():
                function = getattr(module(file), name)
                self.check_function(function, arguments, name)
                self.assertEqual(function.__module__, f"forkedshelves.{file}")

    def test_classes_stand_in_their_files_and_define_each_method(self):
        for file, classes in CLASSES.items():
            for name, (arguments, methods) in classes.items():
                kind = getattr(module(file), name)
                self.assertEqual(kind.__module__, f"forkedshelves.{file}")
                self.check_function(kind.__init__, ["self", *arguments], name)
                for method, passed in methods.items():
                    self.assertIn(method, vars(kind), name)
                    self.check_function(vars(kind)[method], ["self", *passed], f"{name}.{method}")

    def test_parts_stand_in_their_file_and_define_each_method(self):
        self.assertEqual(Part.__module__, "forkedshelves.forks")
        for method, passed in PART.items():
            self.assertIn(method, vars(Part))
            self.check_function(vars(Part)[method], ["self", *passed], f"Part.{method}")

    def test_rules_have_their_attributes_from_the_beginning(self):
        rules = [Apart([1, 2]), Needs([(1, 2)]), Match(1, [1], 2, [1]), Order(1, 2, 0), Total([1, 2], 1),
                 AtMost([1, 2], 1), AtLeast([1, 2], 1), Nest([1, 2]), Ban([[(1, 1), (2, 1)]])]
        for rule in rules:
            self.assertEqual(rule.places, (1, 2))
            self.assertEqual(rule.width, 2)

    def test_other_objects_have_their_attributes_from_the_beginning(self):
        rules = RuleBook([])
        self.assertIs(History(rules, {}).rulebook, rules)
        fork = Fork(rules, {}, {3: 1, 1: 1})
        self.assertEqual([fork.places, fork.whole().places, fork.part([3]).places], [(1, 3), (1, 3), (3,)])

    def test_what_is_passed_by_name(self):
        for function, name, default in [(History.merge, "answers", None), (Desk.merge, "answers", None),
                                        (Desk, "depth", 8), (read_journal, "depth", 8), (most_disjoint, "favour", "first"),
                                        (fewest_given_up, "favour", "first")]:
            found = inspect.signature(function).parameters
            self.assertEqual([found[name].kind, found[name].default], [inspect.Parameter.KEYWORD_ONLY, default])
            others = [parameter for parameter in found.values() if parameter.name != name]
            self.assertTrue(all(parameter.default is inspect.Parameter.empty for parameter in others))

    def test_objects_of_one_class_do_not_share_what_they_keep(self):
        forests = [Forest(1), Forest(1)]
        forests[0].plant([(0, 1, 1)])
        self.assertEqual([forests[1].trees(), forests[1].made()], [[], 0])
        self.assertEqual([list(RuleBook([])), len(list(RuleBook([("a", Apart([]))])))], [[], 1])


if __name__ == "__main__":
    unittest.main()
