"""Points 2 and 3, and the errors of the interface."""

import unittest

from forkedshelves import errors

BAR = ((1, 2), (3, 0))
GROUPS = {
    "RuleError": {
        "RepeatedPlace": {"place": 3}, "EmptyChoice": {}, "BadBound": {"number": -1}, "EmptyBar": {"position": 0},
        "RepeatedKey": {"key": "a"}, "NotABar": {"bar": BAR}, "NotTight": {"bar": BAR},
        "Unlawful": {"key": "b", "bar": BAR}, "BrokenRun": {"position": 4, "key": "c", "bar": BAR},
        "TooWide": {"key": "d"},
    },
    "ClashError": {
        "TreeClash": {"place": 7}, "PlaceClash": {"place": 8, "found": [1, 2]}, "RuleClash": {"key": "e", "bar": BAR},
        "PlanClash": {"nodes": [3, 1, 3]}, "PartClash": {"first": 5, "second": 6}, "PositionClash": {"position": 9},
        "OpenFold": {"place": 10}, "Contradiction": {"winner": (1, 2), "loser": (3, 4)},
        "Unanswered": {"first": (1, 2), "second": (3, 4)}, "AnswerRing": {"ring": [(0, 1), (1, 2)]},
    },
    "MissingError": {
        "NoTree": {"tree": -2}, "NoNode": {"node": 11}, "NoWrite": {"node": 12, "place": 13}, "NoFork": {"name": "f"},
        "NotChanged": {"place": 14}, "NotCommon": {"base": 15}, "NothingToUndo": {}, "NothingToRedo": {},
    },
    "DeedError": {
        "EmptyDeed": {}, "OtherDeeds": {}, "OpenChoice": {"position": 16, "place": 17, "missing": 18},
        "ClosedChoice": {}, "ForkExists": {"name": "g"}, "LastFork": {"name": "h"}, "BadDeed": {"position": 19},
    },
    "TextError": {"BadText": {}, "BadLine": {"number": 20}},
}
KINDS = {name: fields for group in GROUPS.values() for name, fields in group.items()}
LISTS = ("found", "nodes", "ring")


class ErrorsTest(unittest.TestCase):
    def test_there_are_37_kinds_each_with_its_fields_by_name(self):
        self.assertEqual(len(KINDS), 37)
        for name, fields in KINDS.items():
            error = getattr(errors, name)(*fields.values())
            for field, value in fields.items():
                self.assertEqual(getattr(error, field), value, name)
                self.assertIs(type(getattr(error, field)), type(value), name)

    def test_each_kind_is_raised_and_caught_by_its_group(self):
        for group, kinds in GROUPS.items():
            for name, fields in kinds.items():
                for caught in (getattr(errors, name), getattr(errors, group), errors.ShelfError, ValueError):
                    with self.assertRaises(caught):
                        raise getattr(errors, name)(*fields.values())

    def test_no_class_is_a_subclass_of_another_one_except_as_listed(self):
        names = ["ShelfError", *GROUPS, *KINDS]
        above = {"ShelfError": {"ShelfError"}}
        above.update({group: {group, "ShelfError"} for group in GROUPS})
        above.update({name: {name, group, "ShelfError"} for group, kinds in GROUPS.items() for name in kinds})
        for low in names:
            self.assertTrue(issubclass(getattr(errors, low), ValueError))
            found = {high for high in names if issubclass(getattr(errors, low), getattr(errors, high))}
            self.assertEqual(found, above[low])

    def test_every_class_is_defined_in_the_file(self):
        for name in ["ShelfError", *GROUPS, *KINDS]:
            self.assertEqual(getattr(errors, name).__module__, "forkedshelves.errors")

    def test_the_base_classes_are_as_listed(self):
        self.assertEqual(errors.ShelfError.__bases__, (ValueError,))
        for group, kinds in GROUPS.items():
            self.assertEqual(getattr(errors, group).__bases__, (errors.ShelfError,))
            for name in kinds:
                self.assertEqual(getattr(errors, name).__bases__, (getattr(errors, group),))

    def test_lists_in_fields_are_lists_of_their_own(self):
        passed = {"PlaceClash": ("found", [5, 6]), "PlanClash": ("nodes", [2, 1]), "AnswerRing": ("ring", [(0, 3)])}
        for name, (field, given) in passed.items():
            before = list(given)
            args = (1, given) if name == "PlaceClash" else (given,)
            error = getattr(errors, name)(*args)
            self.assertEqual(given, before)
            given.append("later")
            self.assertEqual(getattr(error, field), before)
            getattr(error, field).append("own")
            self.assertEqual(given, before + ["later"])

    def test_empty_lists_are_kept_as_lists(self):
        self.assertEqual(errors.PlaceClash(0, []).found, [])
        self.assertEqual(errors.PlanClash([]).nodes, [])
        self.assertEqual(errors.AnswerRing([]).ring, [])

    def test_a_bar_may_be_any_tuple_of_marks(self):
        for bar in [(), ((1, 2),), ((3, 1), (2, 1))]:
            self.assertEqual(errors.NotABar(bar).bar, bar)
            self.assertEqual(errors.NotTight(bar).bar, bar)


if __name__ == "__main__":
    unittest.main()
