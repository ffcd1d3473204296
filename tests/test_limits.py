"""Points 4 and the interface: the limits, and somewhat beyond them, where the program raises no error."""

import unittest

from forkedshelves.answers import Answers
from forkedshelves.blocks import blocks_with, least_cover
from forkedshelves.books import changes, holds, value_at, with_writes
from forkedshelves.breaking import breaking_case
from forkedshelves.clashes import clash_pairs, inherited_pairs, merge_parts
from forkedshelves.cleanorder import clean_order, ends, stuck_family
from forkedshelves.compare import agreeing_blocks, differing_places, looked
from forkedshelves.copying import expected_copies, plan_copies
from forkedshelves.desk import Desk
from forkedshelves.errors import BadLine
from forkedshelves.exchange import exchange_plan
from forkedshelves.fates import bearers, fate
from forkedshelves.fewest import fewest_given_up, verdicts
from forkedshelves.folds import fold, last_common
from forkedshelves.forest import Forest
from forkedshelves.forkpapers import accepts_fewest, accepts_settled, fewest_paper, settled_paper
from forkedshelves.forks import Fork
from forkedshelves.freest import choices, freest_merges, questions
from forkedshelves.heads import heads, merged_book, past
from forkedshelves.history import History
from forkedshelves.journal import read_journal
from forkedshelves.lines import deed_text, read_deed
from forkedshelves.listed import Ban
from forkedshelves.looker import accepts
from forkedshelves.nests import Nest
from forkedshelves.orders import least_clash, play_order, two_orders
from forkedshelves.pairs import Apart, Match, Needs, Order
from forkedshelves.papers import orders_paper, paper_of, stuck_paper
from forkedshelves.picks import open_place, with_needed
from forkedshelves.plans import plan_nodes, play_plan
from forkedshelves.rulebook import RuleBook
from forkedshelves.runs import first_run, play_run, stages
from forkedshelves.settling import settle
from forkedshelves.shelving import shared_blocks
from forkedshelves.sums import AtLeast, AtMost, Total
from forkedshelves.tight import tight_forks


class LimitsTest(unittest.TestCase):
    def test_large_places_and_values(self):
        book = with_writes({1000: 5}, {10 ** 9: 10 ** 9})
        self.assertEqual(value_at(book, 10 ** 9), 10 ** 9)
        self.assertEqual(changes({1000: 5}, book), {10 ** 9: 10 ** 9})
        self.assertTrue(holds(book, [(1000, 5), (10 ** 9, 10 ** 9)]))
        rule = Order(1000, 10 ** 9, 10 ** 12)
        self.assertEqual(rule.reason(book), ((1000, 5), (10 ** 9, 10 ** 9)))

    def test_rules_with_many_places(self):
        places = list(range(100, 160))
        full = {place: place for place in places}
        self.assertTrue(Apart(places).keeps(full))
        self.assertEqual(Needs(list(zip(places, places[1:]))).reason({100: 1}), ((100, 1), (101, 0)))
        self.assertEqual(len(tight_forks(Needs(list(zip(places, places[1:]))), ((100, 1), (101, 0)))[0]), 59)
        self.assertEqual(Match(1, list(range(60)), 2, list(range(60))).reason({2: 60}), ((1, 0), (2, 60)))
        ring = {place: place - 98 for place in places}
        ring[159] = 1
        self.assertEqual(Nest(places).bars_in(ring), [tuple(sorted(ring.items()))])

    def test_counting_rules_beyond_ten_places(self):
        places = list(range(13))
        full = {place: 1 for place in places}
        self.assertEqual(Total(places, 12).bars_in(full), [tuple(sorted(full.items()))])
        self.assertEqual(len(Total(places, 3).bars_in(full)), 715)
        self.assertEqual(len(AtMost(places, 5).bars_in(full)), 1716)
        self.assertEqual(len(AtLeast(places, 8).bars_in({})), 1716)
        self.assertEqual(Total(places, 10 ** 7).width, 13)

    def test_a_ban_and_a_rule_book_beyond_the_limits(self):
        bars = [[(place, value) for place in range(12)] for value in range(50)]
        rule = Ban(bars)
        rules = RuleBook([(chr(97 + number) * 30, rule) for number in range(20)])
        self.assertEqual(len(rules.reasons({})), 20)
        self.assertEqual(rules.mates(3), [0, 1, 2, 4, 5, 6, 7, 8, 9, 10, 11])

    def test_a_deeper_forest_with_more_trees(self):
        forest = Forest(10)
        base = forest.plant([(place, 10 ** 6, 10 ** 7) for place in range(1000)])
        for stamp in range(1, 70):
            forest.write(base, {stamp: 10 ** 6}, stamp)
        self.assertEqual(len(forest.trees()), 70)
        self.assertEqual(differing_places(forest, 2, 3), [1, 2])
        self.assertEqual(agreeing_blocks(forest, 1, 2), least_cover(10, [0, *range(2, 1024)]))
        self.assertEqual(looked(forest, 1, 2), 21)
        plan = 70
        for tree in range(69, 1, -1):
            plan = (tree, plan)
        groups = [[place] for place in range(1, 70)]
        self.assertEqual(plan_copies(forest, 1, plan)[1], expected_copies(10, groups))
        self.assertEqual(len(blocks_with(12, 4095)), 13)

    def test_a_longer_run(self):
        rules = RuleBook([("unlike", Apart([1, 2, 3]))])
        run = [{place: 1, place + 100: 0} for place in range(70, 3, -1)]
        self.assertEqual(len(play_run(rules, {}, run)), 67)
        self.assertEqual(first_run(rules, run), list(reversed(run)))
        self.assertEqual(stages(rules, run)[0], [list(range(67))])

    def test_choices_of_a_longer_run(self):
        rules = RuleBook([("wide", Apart(list(range(12))))])
        run = [{place % 12: 1, place + 20: 0} for place in range(60)]
        self.assertEqual(with_needed(rules, run, [59]), list(range(60)))
        self.assertEqual(open_place(rules, run, list(range(59, 12, -1))), (13, 0, 12))
        self.assertEqual(len(breaking_case(rules, run, [59])[0]), 60)
        apart = [{place + 20: 0} for place in range(60)]
        self.assertEqual(len(exchange_plan(rules, apart, apart[::-1])[1]), 1770)

    def test_a_larger_history(self):
        history = History(RuleBook([("unlike", Apart([900, 901]))]), {place: 5 for place in range(80)})
        tips = [history.write(0, {1000 + place: 10 ** 6}) for place in range(12)]
        for _ in range(40):
            tips = [history.write(tip, {place: tip}) for place, tip in enumerate(tips)]
        merged = history.merge(tips)
        self.assertEqual(history.node_count(), 494)
        self.assertEqual(len(history.book(merged)), 92)
        self.assertEqual(merged_book(history, tips), history.book(merged))
        self.assertEqual(heads(history, [merged, 7], 3), [tips[3]])
        self.assertEqual(bearers(history, tips, (1000, 10 ** 6)), [0])
        self.assertEqual(fate(history, [merged], 0, 2), [tips[2]])
        self.assertEqual(last_common(history, tips), [0])

    def test_a_long_chain(self):
        history = History(RuleBook([]), {})
        for node in range(600):
            history.write(node, {node % 70: node})
        self.assertEqual(past(history, [600]), list(range(601)))
        self.assertEqual(fold(history, [600, 300])[0], history.book(300))
        self.assertEqual(history.clone().node_count(), 601)

    def test_a_fork_with_more_changes(self):
        rules = RuleBook([("unlike", Apart(list(range(40)))), ("link", Needs([(x, x + 1) for x in range(49)]))])
        base = {place: 1000 + place for place in range(70)}
        first = Fork(rules, base, {place: 2000 + place for place in range(70)})
        second = Fork(rules, base, {place: 2069 - place for place in range(70)})
        self.assertEqual([len(first.road()), len(first.whole().places)], [70, 70])
        # Each place clashes with itself, and with the one that has its value where both are apart.
        self.assertEqual(len(clash_pairs(first, second)), 80)
        self.assertEqual(len(inherited_pairs(first, second)), 80)
        self.assertEqual(merge_parts(first.part([3, 60]), second.part([7])), {**base, 3: 2003, 60: 2060, 7: 2062})

    def test_a_ring_of_forty_needs(self):
        every = [(first, second) for first in range(40) for second in range(40) if first != second]
        fork = Fork(RuleBook([("link", Needs(every))]), {}, {place: 1 for place in range(40)})
        self.assertEqual(fork.needs(), every)
        self.assertEqual([len(part.places) for part in fork.all_parts()], [0, 40])

    def test_more_tips(self):
        history = History(RuleBook([("small", Total(list(range(8)), 6))]), {place: 1 for place in range(10, 80)})
        tips = [history.write(0, {place: 1}) for place in range(8)]
        self.assertEqual(least_clash(history, tips), tips[:7])
        self.assertEqual(two_orders(history, tips)[1], [*tips[:5], tips[6], tips[5]])
        self.assertEqual(len(stuck_family(history, tips)), 246)
        self.assertEqual(clean_order(history, tips[:6]), tips[:6])
        self.assertEqual(len(ends(history, tips[:6])), 1)
        self.assertEqual(play_order(history, tips), (tips[:6], tips[6:]))

    def test_a_longer_plan(self):
        history = History(RuleBook([]), {})
        plan = 0
        for place in range(60):
            plan = (plan, history.write(0, {place: 1}))
        self.assertEqual(plan_nodes(plan), list(range(61)))
        self.assertEqual(play_plan(history, plan), {place: 1 for place in range(60)})

    def test_more_given_up(self):
        first = Fork(RuleBook([]), {}, {place: 1 for place in range(60)})
        second = Fork(RuleBook([]), {}, {place: 1 + place % 2 for place in range(60)})
        odd = list(range(1, 60, 2))
        self.assertEqual(fewest_given_up(first, second)[:2], ([], odd))
        self.assertEqual(verdicts(first, second)[1], {place: "either" if place in odd else "kept" for place in range(60)})
        self.assertTrue(accepts_fewest(first, second, fewest_paper(first, second)))

    def test_a_question_of_more_places(self):
        rules = RuleBook([("ban", Ban([[(x, 1), (20 + y, 1)] for x in range(12) for y in range(12) if x != y]))])
        first = Fork(rules, {}, {place: 1 for place in range(12)})
        second = Fork(rules, {}, {20 + place: 1 for place in range(12)})
        asked = questions(first, second)
        self.assertEqual(asked, [(list(range(12)), list(range(20, 32)))])
        self.assertEqual(len(choices(first, second, asked[0])), 14)
        self.assertEqual(len(freest_merges(first, second)), 14)

    def test_more_forks_to_settle(self):
        answers = Answers()
        for winner in range(1, 9):
            for loser in range(1, winner):
                answers.prefer((5, winner), (5, loser))
        args = RuleBook([]), {}, [{5: value, 10 + value: 1} for value in range(1, 9)], answers
        self.assertEqual(settle(*args), [*[[10 + value] for value in range(1, 8)], [5, 18]])
        self.assertTrue(accepts_settled(*args, settled_paper(*args)))

    def test_papers_of_more_tips(self):
        history = History(RuleBook([("small", Total(list(range(8)), 6))]), {})
        tips = [history.write(0, {place: 1}) for place in range(8)]
        for paper in (paper_of(history, tips), orders_paper(history, tips), stuck_paper(history, tips)):
            self.assertTrue(accepts(history, tips, paper))
        self.assertEqual(shared_blocks(history, 10, tips[0], tips[1]), [(2, 2), (4, 4), (8, 8), (16, 16), (32, 32),
                                                                        (64, 64), (128, 128), (256, 256), (512, 512)])

    def test_longer_names_and_numbers(self):
        name = "abcdefghij" * 3
        desk = Desk(RuleBook([]), {1000: 20000})
        self.assertEqual(desk.fork(name, "main"), 0)
        self.assertEqual(desk.write(name, {1000: 10 ** 7}), 1)
        self.assertEqual([desk.merge("main", [name]), desk.names()], [1, [name, "main"]])
        lines = [f"fork {name} main", f"write {name} 1000=10000000", f"merge main {name} *"]
        self.assertEqual(desk.journal(), lines)
        self.assertEqual(deed_text(("drop", name)), f"drop {name}")
        # The form of the text has these bounds itself, so such a journal cannot be read back.
        with self.assertRaises(BadLine) as caught:
            read_journal(RuleBook([]), {}, lines)
        self.assertEqual(caught.exception.number, 1)

    def test_longer_lists_in_texts(self):
        names, places = ["a" * 20] * 100, list(range(300))
        for deed in [("merge", "b", names, {}), ("carry", "a", "b", places), ("write", "a", {at: at for at in places})]:
            self.assertEqual(read_deed(deed_text(deed)), deed)

    def test_a_desk_with_more_forks_and_deeds(self):
        desk = Desk(RuleBook([]), {})
        names = [chr(97 + number) * 3 for number in range(12)]
        for place, name in enumerate(names):
            desk.fork(name, "main")
            desk.write(name, {place: 1})
        self.assertEqual(desk.merge("main", names), 13)
        for number in range(60):
            self.assertEqual(desk.write("main", {number: 2}), 14 + number)
        self.assertEqual([desk.steps(), len(desk.journal())], [85, 85])
        self.assertEqual(read_journal(RuleBook([]), {}, desk.journal()).book("main"), desk.book("main"))


if __name__ == "__main__":
    unittest.main()
