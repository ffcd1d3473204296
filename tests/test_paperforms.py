"""The forms of papers about histories (point 70), which the program tells apart before it reads them."""

import unittest

from forkedshelves.paperforms import has_form

GOOD = [("clean", []), ("clean", [(1, (0,)), (2, ())]), ("clean", ((1, (2, 3)),)), ("place", 1, 2, 3), ("place", -1, 0, 300),
        ("rule", "key", ((1, 2), (3, 0)), (4, 5)), ("rule", "", (), ()), ("orders", (1, 2), (2, 1), 3),
        ("orders", (), (), 0), ("stuck", ()), ("stuck", ((), (1,), (1, 0))), ("stuck", ((-1, 300),))]
BAD = [("clean", 1), ("clean", "rows"), ("clean", [1]), ("clean", [(1,)]), ("clean", [(1, 2)]), ("clean", [(1, 2, 3)]),
       ("clean", [(1, (2,)), (3, 4)]), ("clean", [("a", (2,))]), ("clean", [(1, (2,), 3)]), ("clean", [(1, ((2,),))]),
       ("clean", [(1, ("a", 2))]), ("clean", [((1,), (2,))]), ("clean", [[1, (2,)]]), ("clean",), ("clean", [], []),
       ("place", 1, 2), ("place", 1, 2, 3, 4), ("place", 1, 2, "a"), ("place", "a", 2, 3), ("place", 1, (2,), 3),
       ("rule", 1, ((1, 2),), (3,)), ("rule", "key", 1, (3,)), ("rule", "key", (1, 2), (3,)), ("rule", "key", ((1,),), (3,)),
       ("rule", "key", ((1, 2), (1, 2, 3)), (3,)), ("rule", "key", ((1, "a"),), (3,)), ("rule", "key", ((1, 2),), 3),
       ("rule", "key", ((1, 2),), ("a", 3)), ("rule", "key", ((1, 2), 3), (3,)), ("rule", "key", ((1, 2),)),
       ("orders", 1, 2, 3), ("orders", (1,), (1,), (1,)), ("orders", (1,), 1, 1), ("orders", (1, (2,)), (1,), 1),
       ("orders", (1,), (1,)), ("orders", ("a",), (1,), 1), ("stuck", 1), ("stuck", (1, 2)), ("stuck", ((1,), 2)),
       ("stuck", ((1, (2,)),)), ("stuck", ((1,), ("a", 1))), ("stuck", "key"), ("stuck", (), ()), ("stuck",), ("other", ()),
       ("", 1, 2, 3), ("Clean", []), ("fewest", (), (), ())]


class HasFormTest(unittest.TestCase):
    def test_forms(self):
        for paper in GOOD:
            self.assertIs(has_form(paper), True, paper)

    def test_other_forms(self):
        for paper in BAD:
            self.assertIs(has_form(paper), False, paper)


if __name__ == "__main__":
    unittest.main()
