"""Point 12."""

import random
import unittest
from itertools import combinations

from forkedshelves.books import with_writes
from forkedshelves.errors import NotABar, NotTight
from forkedshelves.listed import Ban
from forkedshelves.nests import Nest
from forkedshelves.pairs import Apart, Match, Needs, Order
from forkedshelves.sums import AtLeast, AtMost, Total
from forkedshelves.tight import tight_forks
from tests.helpers import WatchedCase, all_books, all_marks
from tests.rulecases import all_cases


def is_tight(rule, bar, base):
    """Tell whether a book is a tight base of a bar."""
    if not rule.keeps(base) or any(base.get(place, 0) == value for place, value in bar):
        return False
    parts = [part for size in range(len(bar)) for part in combinations(bar, size)]
    return all(rule.keeps(with_writes(base, dict(part))) for part in parts)


class TightForksTest(WatchedCase):
    def check_tight(self, rule, bar, listed=()):
        """Check the result for a bar; listed are the values of the lists of a Match and of the bars of a Ban."""
        result = self.call(tight_forks, rule, bar)
        self.assertIs(type(result), tuple)
        base, forks = result
        self.assertTrue(is_tight(rule, bar, base), (bar, base))
        self.assertFalse(rule.keeps(with_writes(base, dict(bar))))
        self.assertEqual(forks, [with_writes(base, {place: value}) for place, value in bar])
        self.assertLessEqual(set(base), set(rule.places))
        self.assertTrue(all(value > 0 for value in base.values()))
        highest = 1 + max([value for _, value in bar] + list(listed))
        self.assertLessEqual(max(base.values(), default=0), highest)
        self.check_new(tight_forks, rule, bar)

    def test_apart(self):
        self.check_tight(Apart([5, 2, 9]), ((2, 7), (9, 7)))
        self.check_tight(Apart([5, 2]), ((2, 1), (5, 1)))

    def test_order(self):
        for rule, bar in [(Order(6, 2, 3), ((2, 7), (6, 5))), (Order(2, 6, 0), ((2, 2), (6, 1))),
                          (Order(2, 6, -1), ((2, 9), (6, 1))), (Order(2, 6, 9999), ((2, 1), (6, 1)))]:
            self.check_tight(rule, bar)

    def test_match(self):
        self.check_tight(Match(7, [1, 2], 4, [5, 6]), ((4, 0), (7, 1)), [1, 2, 5, 6])
        self.check_tight(Match(4, [1, 2], 7, [5, 6]), ((4, 2), (7, 9999)), [1, 2, 5, 6])
        self.check_tight(Match(4, [0], 7, [5]), ((4, 0), (7, 0)), [0, 5])
        self.check_tight(Match(4, [0, 1, 2, 3, 3], 7, [0]), ((4, 2), (7, 1)), [0, 1, 2, 3])
        self.check_tight(Match(4, [0, 1, 2], 7, [0]), ((4, 1), (7, 1)), [0, 1, 2])
        self.check_tight(Match(7, [3, 0, 1], 4, [0, 2, 2]), ((4, 1), (7, 0)), [3, 0, 1, 2])
        self.check_tight(Match(7, [1, 0], 4, [9999]), ((4, 1), (7, 0)), [1, 0, 9999])

    def test_total(self):
        self.check_tight(Total([3, 1, 2], 5), ((1, 2), (3, 4)))
        self.check_tight(Total([3, 1, 2], 5), ((1, 2), (2, 2), (3, 2)))
        self.check_tight(Total([4, 5], 1), ((4, 1), (5, 1)))

    def test_at_most(self):
        self.check_tight(AtMost([7, 3, 5], 1), ((3, 1), (7, 9)))
        self.check_tight(AtMost([7, 3, 5], 2), ((3, 1), (5, 1), (7, 1)))

    def test_at_least(self):
        self.check_tight(AtLeast([7, 3, 5], 2), ((3, 0), (7, 0)))
        self.check_tight(AtLeast([7, 3, 5], 1), ((3, 0), (5, 0), (7, 0)))
        self.check_tight(AtLeast([7, 3, 5, 4, 1], 3), ((3, 0), (5, 0), (7, 0)))

    def test_nest(self):
        self.check_tight(Nest([9, 4, 6]), ((4, 1), (9, 2)))
        self.check_tight(Nest([9, 4, 6]), ((4, 3), (6, 1), (9, 2)))

    def test_ban(self):
        bars = [[(1, 1), (2, 2)], [(2, 2), (3, 0)], [(1, 2), (2, 1)], [(1, 0), (3, 3)], [(4, 0)], [(2, 3)]]
        for bar in bars[:4]:
            self.check_tight(Ban(bars), tuple(bar), [0, 1, 2, 3])
        self.check_tight(Ban([[(1, 0), (2, 0), (5, 0)]]), ((1, 0), (2, 0), (5, 0)), [0])
        self.check_tight(Ban([[(1, 0), (2, 0)], [(1, 1), (2, 0)], [(2, 1)]]), ((1, 0), (2, 0)), [0, 1])
        wide = [[(place, 1 + place % 3) for place in range(10)], [(0, 2), (1, 3)]]
        self.check_tight(Ban(wide), tuple(wide[0]), [1, 2, 3])

    def test_the_bars_of_all_rules_in_a_small_world(self):
        for case in all_cases():
            # No listed value of the rules of the world is above 3.
            listed = [3] if isinstance(case.rule, (Match, Ban)) else []
            for bar in all_marks(case.places, [0, 1, 2, 3]):
                if case.is_bar(bar) and len(bar) > 1 and not isinstance(case.rule, Needs):
                    self.check_tight(case.rule, bar, listed)

    def test_what_is_no_bar_of_two_marks(self):
        one = Ban([[(1, 1)], [(2, 2), (3, 3)]])
        for rule, bar in [(one, ((1, 1),)), (one, ()), (one, ((3, 3), (2, 2))), (one, ((2, 2), (3, 4))),
                          (one, ((2, 2), (2, 2), (3, 3))), (AtMost([1, 2], 0), ((1, 1),)), (Nest([1, 2]), ((1, 1),)),
                          (AtLeast([1, 2], 2), ((1, 0),)), (Total([1, 2], 3), ((1, 4),)), (Total([1, 2], 3), ()),
                          (Apart([1, 2]), ((2, 1), (1, 1))), (Apart([1, 2]), ((1, 1), (2, 2))), (Apart([]), ()),
                          (Order(1, 2, 0), ((1, 1), (2, 2))), (Match(1, [1], 2, [2]), ((1, 1), (2, 2))),
                          (Nest([1, 2, 3]), ((1, 2), (2, 3))), (AtLeast([1, 2], 1), ((1, 0), (2, 1)))]:
            self.refuse(NotABar, {"bar": bar}, tight_forks, rule, bar)

    def test_no_bar_of_a_needs(self):
        rule = Needs([(1, 2), (2, 1)])
        for bar in [(), ((1, 1),), ((2, 0), (1, 1)), ((1, 1), (2, 1)), ((1, 0), (2, 0)), ((1, 1), (3, 0))]:
            self.refuse(NotABar, {"bar": bar}, tight_forks, rule, bar)

    def test_needs_with_a_tight_base(self):
        self.check_tight(Needs([(1, 2)]), ((1, 5), (2, 0)))
        self.check_tight(Needs([(2, 1)]), ((1, 0), (2, 1)))
        self.check_tight(Needs([(1, 2), (1, 2)]), ((1, 1), (2, 0)))
        self.check_tight(Needs([(1, 2), (2, 3), (3, 4)]), ((1, 1), (2, 0)))
        self.check_tight(Needs([(4, 1), (1, 2), (5, 2)]), ((1, 1), (2, 0)))
        self.check_tight(Needs([(1, 2), (1, 3)]), ((1, 1), (2, 0)))
        self.check_tight(Needs([(1, 2), (2, 3), (3, 4), (4, 3)]), ((1, 9999), (2, 0)))

    def test_needs_whose_filled_place_needs_itself(self):
        for pairs in ([(1, 2), (2, 1)], [(1, 2), (2, 3), (3, 1)], [(1, 2), (1, 3), (3, 1)],
                      [(1, 2), (1, 3), (3, 4), (4, 1)]):
            self.refuse(NotTight, {"bar": ((1, 7), (2, 0))}, tight_forks, Needs(pairs), ((1, 7), (2, 0)))

    def test_needs_with_a_needed_place_that_needs_the_emptied_one(self):
        for pairs in ([(1, 2), (1, 3), (3, 2)], [(1, 2), (2, 3), (3, 2)], [(1, 3), (3, 4), (4, 2), (1, 2)]):
            self.refuse(NotTight, {"bar": ((1, 7), (2, 0))}, tight_forks, Needs(pairs), ((1, 7), (2, 0)))

    def test_a_chain_that_leads_to_the_emptied_place_only_by_a_needed_place(self):
        # 3 needs 2 by a pair of its own, so the bar of 1 and 2 is not tight, but that of 3 and 2 is.
        rule = Needs([(1, 3), (3, 2), (1, 2)])
        self.check_tight(rule, ((2, 0), (3, 1)))
        self.check_tight(rule, ((1, 1), (3, 0)))
        self.refuse(NotTight, {"bar": ((1, 1), (2, 0))}, tight_forks, rule, ((1, 1), (2, 0)))

    def test_needs_against_all_books(self):
        chance = random.Random(12)
        for _ in range(150):
            places = list(range(chance.randint(2, 5)))
            pairs = [tuple(chance.sample(places, 2)) for _ in range(chance.randint(1, 7))]
            rule = Needs(pairs)
            for first, second in pairs:
                bar = tuple(sorted([(first, 1), (second, 0)]))
                # A value of 2 stands for all values that no mark of the bar has.
                if any(is_tight(rule, bar, book) for book in all_books(places, [0, 2])):
                    self.check_tight(rule, bar)
                else:
                    self.refuse(NotTight, {"bar": bar}, tight_forks, rule, bar)


if __name__ == "__main__":
    unittest.main()
