"""One market and one claim through all stages: each told paper is held by the judges that speak of it."""

import random
import unittest

from helper import fraction, is_same, raised, ratio
from judges import Told, barring_market, random_board, random_claim, random_market
from test_bells import day_by_chance

from heardquotes.bells import bell_covers, bell_paper, bells_of, enough, is_bell_paper, lacking, market_with
from heardquotes.boards import Board
from heardquotes.charts import all_charts
from heardquotes.claims import Claim
from heardquotes.desk import Desk
from heardquotes.flows import flow_at_length, flow_worth, greatest_flow, is_flow, is_tight
from heardquotes.folded import cover, folded_plan, is_folded_plan, plan_at_length
from heardquotes.kinds import half_at_length, half_plan, is_half_plan, kind, limit
from heardquotes.late import is_late_plan, is_late_weights, late_need, late_plan, late_weights
from heardquotes.lengths import is_lack, is_length_flow, is_length_plan, lack, length_flow, length_plan, need, worth
from heardquotes.markets import Market, first_stand, stands
from heardquotes.moments import fair_weights, is_fair, is_sure, sure_gain
from heardquotes.orders import apart, are_alike, at_most_pairs, is_apart, is_at_most_paper
from heardquotes.played import is_word_plan, left_over, played, word_plan, word_weights
from heardquotes.prices import cheapest, costs, folded_with_bell, with_bell, without_bell
from heardquotes.ratios import Ratio
from heardquotes.readers import read
from heardquotes.shares import groups, is_shares_paper, shares, shares_paper
from heardquotes.texts import written
from heardquotes.theses import contrary, is_paper, is_true, paper_of
from heardquotes.together import own_covers, saved, together
from heardquotes.verdicts import each_paper, fails_paper, is_each_paper, is_fails_paper, is_one_paper, one_paper, verdict
from heardquotes.window import is_window_flow, is_window_plan, window_cover, window_flow, window_need, window_plan


def cases(chance, rounds):
    for _ in range(rounds):
        market = barring_market(chance) if chance.random() < 0.4 else random_market(chance, most_stands=10)
        yield market, random_claim(chance, market, -1, 1)


class Guarantees(unittest.TestCase):
    def test_fair_or_a_sure_gain(self):
        chance = random.Random(791)
        for market, _ in cases(chance, 30):
            for stand in stands(market):
                weights, position = fair_weights(market, stand), sure_gain(market, stand)
                self.assertTrue((weights is None) != (position is None))
                self.assertTrue(is_fair(market, stand, weights) if position is None else is_sure(market, stand, position))
                self.assertIs(is_paper(("fair" if position is None else "sure", market, stand), weights if position is None else position), True)

    def test_at_each_length(self):
        chance = random.Random(792)
        for market, claim in cases(chance, 30):
            many = chance.randint(0, 4)
            least, plan, flow = need(market, claim, many), length_plan(market, claim, many), length_flow(market, claim, many)
            below = least - Ratio(1, 97)
            self.assertIs(is_length_plan(market, claim, least, many, plan), True)
            self.assertIs(is_length_flow(market, many, flow), True)
            self.assertEqual(worth(market, claim, flow), least)
            self.assertTrue(is_same(left_over(market, claim, plan, flow), (Ratio(0),) * 3))
            self.assertIs(is_lack(market, claim, below, many, lack(market, claim, below, many)), True)
            self.assertIs(is_paper(("enough", market, claim, least, many), plan), True)
            self.assertIs(is_paper(("lacking", market, claim, below, many), flow), True)
            if raised(word_plan, market, claim, plan) is None:
                self.assertIs(is_word_plan(market, claim, least, many, word_plan(market, claim, plan)), True)
            self.check_along_a_word(chance, market, claim, plan, many)
            self.check_late_by_0(market, claim, many)

    def check_along_a_word(self, chance, market, claim, plan, many):
        """A desk that follows the plan has at each beginning of a word what is played."""
        desk = Desk(market, claim, plan[first_stand(market), many][0])
        desk["plan"] = plan
        self.assertEqual(desk.do("follow plan"), "enough")
        coins = [desk.coins]
        while len(desk.word) < many and desk.do("next") != "-":
            desk.do("hear " + chance.choice(desk.do("next").split()))
            coins.append(desk.coins)
        self.assertTrue(is_same(played(market, claim, plan, desk.word), coins))
        self.assertEqual(desk.do("short"), "-")

    def check_late_by_0(self, market, claim, many):
        """Word weights are late weights, and a word plan is a late plan, if nothing is told late."""
        if market.board.states > 1 or raised(late_need, market, claim, many, 0):
            return
        self.assertEqual(late_need(market, claim, many, 0), need(market, claim, many))
        weights = word_weights(market, length_flow(market, claim, many))
        self.assertIs(is_late_weights(market, many, 0, weights), True)
        plan = {(word, len(word)): position for word, position in word_plan(market, claim, length_plan(market, claim, many)).items()
                if Told(market).leads[Told(market).passed(word)[-1]]}
        self.assertIs(is_late_plan(market, claim, need(market, claim, many), many, 0, plan), True)

    def test_three_verdicts(self):
        chance = random.Random(793)
        seen = {}
        for market, claim in cases(chance, 80):
            least = limit(market, claim)
            for number in [2] if least is None else [least, least - Ratio(1, 50), least + 1]:
                told = verdict(market, claim, number)
                seen[told] = seen.get(told, 0) + 1
                papers = one_paper(market, claim, number), each_paper(market, claim, number), fails_paper(market, claim, number)
                self.assertEqual([paper is not None for paper in papers], [told == word for word in ("one", "each", "fails")])
                judges = is_one_paper, is_each_paper, is_fails_paper
                self.assertEqual([judge(market, claim, number, paper) for judge, paper in zip(judges, papers)], [told == word for word in ("one", "each", "fails")])
                self.check_verdict(market, claim, number, told, papers)
        self.assertEqual(set(seen), {"one", "each", "fails"})

    def check_verdict(self, market, claim, number, told, papers):
        if told == "one":
            self.assertIs(is_paper(("at once", market, claim, number), papers[0]), True)
            half = {stand: (coins, position, [0] * len(position)) for stand, (coins, position) in papers[0].items()}
            self.assertIs(is_half_plan(market, claim, half), True)
            self.assertIs(is_paper(("each length", market, claim, number), half), True)
            self.assertIs(is_paper(("not owing", market, claim), papers[0]), cover(market, claim) is not None)
            self.assertIs(is_length_plan(market, claim, number, 3, plan_at_length(market, claim, papers[0], 3)), True)
        if told == "each":
            self.assertIs(is_paper(("each length", market, claim, number), papers[1][0]), True)
            self.assertIs(is_paper(("never at once", market, claim, number), papers[1][1]), True)
            self.assertIs(is_length_plan(market, claim, number, 3, half_at_length(market, claim, half_plan(market, claim), 3)), True)
        if told == "fails":
            self.assertIs(is_paper(("some length fails", market, claim, number), papers[2]), True)
            self.assertIs(is_paper(("never at once", market, claim, number), papers[2]), True)
        self.assertEqual(Desk(market, claim, number).do("kind"), kind(market, claim, first_stand(market)))

    def test_folded_papers_and_the_window(self):
        chance = random.Random(794)
        for market, claim in cases(chance, 40):
            plan, flow, least = folded_plan(market, claim), greatest_flow(market, claim), cover(market, claim)
            if plan is None:
                self.assertIs(is_true(("owing", market, claim)), True)
                continue
            self.assertTrue(is_folded_plan(market, claim, plan) and is_flow(market, flow) and is_tight(market, claim, plan, flow))
            self.assertEqual((flow_worth(market, claim, flow), plan[first_stand(market)][0]), (least, least))
            self.assertIs(is_length_flow(market, 3, flow_at_length(market, flow, 3)), True)
            told, below = window_cover(market, claim), window_need(market, claim, 3)
            self.assertTrue(told.is_at_most(least) and below.is_at_most(told) and below.is_at_most(need(market, claim, 3)))
            self.assertTrue(is_window_plan(market, claim, window_plan(market, claim)) and is_window_flow(market, claim, window_flow(market, claim)))
            self.assertEqual(Desk(market, claim, 1).do_all("cover", "spare"), [str(least), str(Ratio(1) - least)])

    def test_bells(self):
        chance = random.Random(795)
        for _ in range(15):
            machine, board, claim = day_by_chance(chance)
            bells = bells_of(machine, board, claim)
            covers, prices = bell_covers(machine, board, claim), {bell: chance.randint(0, 2) for bell in bells}
            table = costs(machine, board, claim, prices)
            self.assertEqual(cheapest(machine, board, claim, prices)[0], ratio(min(map(fraction, table.values()))))
            for number in {str(least): least for least in covers.values()}.values():
                plans, lacks = bell_paper(machine, board, claim, number)
                self.assertIs(is_bell_paper(machine, board, claim, number, (plans, lacks)), True)
                self.assertEqual((list(plans), list(lacks)), (enough(machine, board, claim, number), lacking(machine, board, claim, number)))
                for some, plan in plans.items():
                    self.assertIs(is_paper(("bells enough", machine, board, claim, some, number), plan), True)
                for some, paper in lacks.items():
                    self.assertIs(is_paper(("bells lacking", machine, board, claim, some, number), paper), True)
            fewer, more = market_with(machine, board, claim, ""), market_with(machine, board, claim, bells[:1])
            if bells and len(fewer.heard) < len(more.heard):
                self.assertIs(is_folded_plan(more, claim, folded_with_bell(fewer, claim, folded_plan(fewer, claim), bells[0])), True)
                carried = with_bell(fewer, claim, length_plan(fewer, claim, 3), bells[0])
                self.assertIs(is_length_plan(more, claim, need(fewer, claim, 3), 3, carried), True)
                back = without_bell(more, claim, length_flow(more, claim, 3), bells[0])
                self.assertIs(is_length_flow(fewer, 3, back), True)
                self.assertTrue(worth(more, claim, length_flow(more, claim, 3)).is_at_most(worth(fewer, claim, back)))

    def test_late(self):
        chance = random.Random(796)
        for market, claim in cases(chance, 40):
            market = market.with_board(random_board(chance, market.heard, 1, 2))
            if raised(late_need, market, claim, 2, 1):
                continue
            needs = [late_need(market, claim, 2, late) for late in range(3)]
            self.assertEqual(needs[0], need(market, claim, 2))
            self.assertTrue(needs[0].is_at_most(needs[1]) and needs[1] == needs[2])
            for late in (0, 1):
                plan, weights = late_plan(market, claim, needs[late], 2, late), late_weights(market, claim, 2, late)
                self.assertIs(is_paper(("late enough", market, claim, needs[late], 2, late), plan), True)
                self.assertIs(is_paper(("late lacking", market, claim, needs[late] - 1, 2, late), weights), True)
                # A plan that does with late news does with timely ones.
                timely = {(word, many): plan[word[:max(0, many - late)], many] for word, many in late_plan(market, claim, needs[0], 2, 0)}
                self.assertIs(is_late_plan(market, claim, needs[late], 2, 0, timely), True)

    def test_together(self):
        chance = random.Random(797)
        for market, claim in cases(chance, 40):
            claims = [claim, random_claim(chance, market, -1, 1), claim * 2]
            covers, paper = own_covers(market, claims), shares_paper(market, claims)
            if None in covers:
                self.assertIsNone(saved(market, claims))
                continue
            self.assertEqual(saved(market, claims), Ratio.total(covers) - together(market, claims))
            self.assertFalse(saved(market, claims).is_below(0))
            self.assertIs(is_shares_paper(market, claims, paper), True)
            self.assertIs(is_flow(market, paper[0]), True)
            self.assertEqual(Ratio.total(shares(market, claims, paper)), together(market, claims))
            self.assertTrue(all(pays.is_at_most(least) for _, pays, least in groups(market, claims, paper)))

    def test_for_all_boards(self):
        chance = random.Random(798)
        seen = []
        for market, claim in cases(chance, 40):
            machine, heard, dues = market.machine, market.heard, Claim(claim.dues())
            more = Claim({place: 1 for place in range(machine.places)}) + dues
            self.assertIs(is_paper(("needs at most", machine, dues, machine, more, heard), at_most_pairs(machine, dues, machine, more, heard)), True)
            self.assertIs(are_alike(machine, dues, machine, dues, heard), True)
            self.assertTrue(cover(market, dues).is_at_most(cover(market, more)))
            told = apart(machine, more, machine, dues, heard)
            seen.append(told[0])
            self.assertIs(is_apart(machine, more, machine, dues, heard, told), True)
            self.assertIs(is_at_most_paper(machine, more, machine, dues, heard, []), False)
        self.assertTrue(seen)


class Conventions(unittest.TestCase):
    def test_calls_that_are_repeated_with_numbers_of_the_same_worth(self):
        chance = random.Random(799)
        for market, claim in cases(chance, 25):
            same = Claim(dict(list(claim.dues().items())[::-1]), dict(list(claim.tolls().items())[::-1]))
            again = read(written(market))
            self.assertTrue(is_same([again, read(written(claim))], [market, claim]))
            for ask in (folded_plan, greatest_flow, window_plan, window_flow, half_plan):
                self.assertTrue(is_same(ask(market, claim), ask(again, same)))
            for ask in (length_plan, length_flow):
                self.assertTrue(is_same(ask(market, claim, 3), ask(again, same, 3)))
            for number in (1, Ratio(1)):
                thesis = ("at once", again, same, number)
                self.assertTrue(is_same(paper_of(thesis) or paper_of(contrary(thesis)),
                                        paper_of(("at once", market, claim, 1)) or paper_of(("never at once", market, claim, 1))))

    def test_the_order_of_keys_has_no_effect(self):
        chance = random.Random(800)
        for market, claim in cases(chance, 25):
            told = folded_plan(market, claim), greatest_flow(market, claim), window_flow(market, claim)
            if None in told:
                continue
            plan, flow, passing = [dict(list(paper.items())[::-1]) for paper in told]
            passing = {stand: (leaves, dict(list(weights.items())[::-1])) for stand, (leaves, weights) in passing.items()}
            self.assertTrue(is_tight(market, claim, plan, flow) and is_window_flow(market, claim, passing))
            desks = [Desk(market, claim, 1) for _ in range(2)]
            desks[0]["p"], desks[1]["p"] = plan, told[0]
            self.assertTrue(is_same(desks[0]["p"], desks[1]["p"]))
            for bell in [letter for letter in market.machine.letters if letter not in market.heard]:
                if raised(folded_with_bell, market, claim, plan, bell) is None:
                    self.assertTrue(is_same(folded_with_bell(market, claim, plan, bell), folded_with_bell(market, claim, told[0], bell)))

    def test_tuples_where_lists_are_told(self):
        def as_tuples(part):
            if isinstance(part, dict):
                return {key: as_tuples(part[key]) for key in part}
            return tuple(map(as_tuples, part)) if isinstance(part, (list, tuple)) else part
        chance = random.Random(801)
        for market, claim in cases(chance, 25):
            plan = window_plan(market, claim)
            if plan is None:
                continue
            self.assertIs(is_window_plan(market, claim, as_tuples(plan)), True)
            self.assertIs(is_length_plan(market, claim, 99, 3, as_tuples(length_plan(market, claim, 3))), need(market, claim, 3).is_at_most(99))
            kept = Desk(market, claim, 0)
            kept["p"] = as_tuples(length_plan(market, claim, 3))
            self.assertTrue(is_same(kept["p"], length_plan(market, claim, 3)))
            pairs = at_most_pairs(market.machine, Claim({}), market.machine, Claim({}), market.heard)
            self.assertIs(is_at_most_paper(market.machine, Claim({}), market.machine, Claim({}), market.heard, tuple(pairs)), True)

    def test_desks_alone_change(self):
        chance = random.Random(802)
        for market, claim in cases(chance, 10):
            before = written(market), written(claim), repr(market), all_charts(market.machine, market.heard)
            desk = Desk(market, claim, 5)
            for line in ("leave", "hear " + (market.heard[:1] or "a"), "undo", "need 2", "cover"):
                raised(desk.do, line)
            self.assertEqual(before, (written(market), written(claim), repr(market), all_charts(market.machine, market.heard)))
            self.assertEqual(Market(market.machine, market.heard, Board([[]])), market.with_board(Board([[]])))


if __name__ == "__main__":
    unittest.main()
