import random
import unittest

from helper import ODD_VALUES, fraction, is_same, raised, ratio
from judges import Told, barring_market, random_claim, random_market
from machinery import random_number
from test_folded import COSTLY, FAR, SWING
from test_lengths import DUE, ENDED, HALF, OTHER_CLAIMS, START, WAIT
from test_lengths import PLAN as LENGTH_PLAN

from heardquotes.boards import Board
from heardquotes.claims import Claim
from heardquotes.commands import is_deed, number_text
from heardquotes.desk import Desk, Trial, tried
from heardquotes.errors import CommandFailed, InvalidHold, StateError
from heardquotes.folded import folded_plan
from heardquotes.kinds import kinds, limits
from heardquotes.lengths import length_plan, need_from
from heardquotes.machines import Machine
from heardquotes.markets import Market
from heardquotes.ratios import Ratio

FOLDED = {START: (3, [0]), ENDED: (3, [0])}
# It holds something where nothing can be heard any more, and keeps what it has.
BUYING = {START: (3, [0]), ENDED: (3, [2])}
# What b leads to is barred; there c costs 1 for ever. By a one comes to where 2 are due and nothing can be heard.
BARRED = Market(Machine(4, [(0, "a", 1), (0, "b", 2), (2, "c", 2), (0, "", 3)], [0]), "abc", Board([[({"b": 1}, None, 0)], []], {(0, "a"): 1}))
TOLLED = Claim({1: 2, 3: 1}, {"c": 1, "a": HALF})
ONE_SIDED = Market(Machine(2, [(0, "a", 0), (0, "b", 1)], [0]), "ab", Board([[({"a": 1}, None, HALF), ({"b": 2}, 1, None), ({"a": 0, "b": 1}, 0, 1)]]))


def desk_of(market=WAIT, claim=DUE, number=3, **plans):
    desk = Desk(market, claim, number)
    for name, plan in plans.items():
        desk[name] = plan
    return desk


def state_of(desk):
    """All that can be seen of a desk."""
    fresh = desk.copy()
    back = []
    while len(fresh):
        back.append((fresh.do("undo"), fresh.coins, fresh.word, fresh.stand, fresh.held, fresh.is_stopped, fresh.do("short"), fresh.do("follows")))
    ahead = desk.copy()
    again = []
    while raised(ahead.do, "redo") is None:
        again.append((ahead.log()[-1], ahead.coins, ahead.word, ahead.stand, ahead.held))
    names = desk.do("plans").split(" ") if desk.do("plans") != "-" else []
    return (desk.coins, desk.word, desk.stand, desk.held, desk.is_stopped, len(desk), desk.log(), desk.do("short"), desk.do("follows"),
            [(name, desk[name]) for name in names], back, again)


class Made(unittest.TestCase):
    def test_a_new_desk(self):
        desk = Desk(market=WAIT, claim=DUE, number=Ratio(5, 2))
        self.assertIs(desk.market, WAIT)
        self.assertEqual(desk.claim, DUE)
        self.assertTrue(is_same([desk.coins, desk.word, desk.stand, desk.held, desk.is_stopped, len(desk), desk.log()],
                                [Ratio(5, 2), "", START, [Ratio(0)], False, 0, []]))
        self.assertTrue(is_same(Desk(WAIT, DUE, 3).coins, Ratio(3)))
        self.assertEqual(Desk(WAIT, DUE, -3).coins, Ratio(-3))

    def test_properties_are_not_set(self):
        desk = desk_of()
        for name in ("market", "claim", "coins", "word", "stand", "is_stopped", "held"):
            self.assertEqual(raised(setattr, desk, name, None)[0], "AttributeError")

    def test_what_is_told_may_be_changed(self):
        desk = desk_of(one=FOLDED)
        desk.held.append(1)
        desk.log().append("x")
        desk["one"][START][1].append(5)
        desk["one"].clear()
        self.assertEqual((desk.held, desk.log(), desk["one"]), ([Ratio(0)], [], {START: (Ratio(3), [Ratio(0)]), ENDED: (Ratio(3), [Ratio(0)])}))

    def test_it_is_not_iterated(self):
        with self.assertRaises(TypeError):
            list(desk_of())

    def test_errors(self):
        for value in [*ODD_VALUES, "1"]:
            self.assertEqual(raised(Desk, WAIT, Claim({7: 1}), value), ("InvalidNumber", value))
        for claim, error in OTHER_CLAIMS:
            self.assertEqual(raised(Desk, WAIT, claim, 1), error)


class Heard(unittest.TestCase):
    def test_what_is_held_gains_and_tolls_are_paid(self):
        desk = Desk(WAIT, Claim({1: 3}, {"a": Ratio(1, 4), "b": -1}), 2)
        self.assertEqual(desk.do_all("hold 3", "hear a", "position", "coins", "hold 3", "hear b", "coins", "word", "stand"),
                         ["a -3/2 b 3/2", "1/4", "0", "1/4", "a -3/2 b 3/2", "11/4", "11/4", "ab", "1 at 0"])
        self.assertTrue(is_same([desk.coins, desk.word, desk.stand, desk.held], [Ratio(11, 4), "ab", ENDED, [Ratio(0)]]))

    def test_coins_may_be_below_0(self):
        desk = desk_of(number=0)
        self.assertEqual(desk.do_all("hold 4", "hear a", "hear a", "coins", "hold -6", "hear b"), ["a -2 b 2", "-2", "-2", "-2", "a 3 b -3", "-5"])

    def test_short(self):
        desk = desk_of(number=3)
        self.assertEqual(desk.do_all("short", "hold 1", "hear a", "short", "hear b", "short"), ["-", "a -1/2 b 1/2", "5/2", "-", "5/2", "2"])
        self.assertEqual(desk.do_all("undo", "short", "hold 1", "hear b", "short"), ["hear b", "-", "a -1/2 b 1/2", "3", "-"])

    def test_short_at_the_empty_word_and_later(self):
        desk = Desk(SWING, Claim({0: 5}, {"a": 1, "b": -1}), 4)
        self.assertEqual(desk.do_all("short", "hear b", "short", "hear a", "short", "hear a", "hear b", "hear b", "short"),
                         ["0", "5", "0", "4", "0 2", "3", "4", "5", "0 2 3 4"])
        self.assertEqual(Desk(SWING, Claim({0: 5}), 5).do("short"), "-")
        # A stop changes nothing of it.
        self.assertEqual(desk.do_all("stop 0", "coins", "short"), ["0", "0", "0 2 3 4"])

    def test_turns_of_the_board(self):
        desk = Desk(BARRED, TOLLED, 5)
        self.assertEqual(desk.do_all("stand", "position", "hold 2", "hear a", "stand", "position", "hold", "gains", "next"),
                         ["0 3 at 0", "0", "a 0 b 2", "9/2", "1 at 1", "-", "-", "-", "-"])
        self.assertTrue(is_same([desk.stand, desk.held], [((1,), 1), []]))

    def test_letters_that_cannot_be_heard(self):
        desk = Desk(BARRED, TOLLED, 5)
        self.assertEqual([raised(desk.do, "hear " + letter) for letter in "dzc"], [("UnheardLetter", "d"), ("UnheardLetter", "z"), ("NotNext", "c")])
        desk.do("hear a")
        self.assertEqual([raised(desk.do, "hear " + letter) for letter in "da"], [("UnheardLetter", "d"), ("NotNext", "a")])
        self.assertEqual(desk.log(), ["hear a"])


class Holding(unittest.TestCase):
    def test_positions(self):
        desk = Desk(ONE_SIDED, Claim({}), 0)
        self.assertEqual(desk.do("hold 1 -2 1/2"), "a 0 b -2")
        self.assertEqual(desk.do_all("position", "gains", "hold 2 0 0", "position", "hold 0 0 -3", "gains"),
                         ["1 -2 1/2", "a 0 b -2", "a 1 b 0", "2 0 0", "a 0 b -3", "a 0 b -3"])
        self.assertTrue(is_same(desk.held, [Ratio(0), Ratio(0), Ratio(-3)]))

    def test_positions_that_are_none(self):
        desk = Desk(ONE_SIDED, Claim({}), 0)
        for line, position in (("hold", None), ("hold 1", None), ("hold 0 0", None), ("hold 0 0 0 0", None), ("hold -1 0 0", 0), ("hold 0 1 0", 1),
                               ("hold 1 1/9 0", 1), ("hold -1 1 0", 0), ("hold -1 -1 0 0", None)):
            self.assertEqual(raised(desk.do, line), ("InvalidHold", position), line)
        self.assertEqual((len(desk), desk.held), (0, [Ratio(0)] * 3))
        bare = Desk(Market(WAIT.machine, "ab", Board([[]])), DUE, 1)
        self.assertEqual(bare.do_all("hold", "position", "gains"), ["a 0 b 0", "-", "a 0 b 0"])
        self.assertEqual(raised(bare.do, "hold 0"), ("InvalidHold", None))


class Stopping(unittest.TestCase):
    def test_the_due_is_paid_and_nothing_goes_on(self):
        desk = desk_of(number=4, one=FOLDED)
        self.assertEqual(desk.do_all("follow one", "hear b", "stop 1", "coins", "position", "follows", "word", "stand", "short", "floor"),
                         ["enough", "4", "1", "1", "0", "-", "b", "1 at 0", "-", "3"])
        self.assertTrue(is_same([desk.coins, desk.is_stopped, desk.held], [Ratio(1), True, [Ratio(0)]]))
        for line in ("hear a", "hear z", "hold 0", "hold", "follow one", "follow two", "leave", "stop 1", "stop 7"):
            self.assertEqual(raised(desk.do, line), ("Stopped",))
        self.assertEqual(raised(desk.do, "need 13"), ("TooMany", "letters", 12))
        self.assertEqual(desk.do_all("next", "live", "gains", "need 2", "cover", "spare", "kind", "plans"), ["-", "-", "-", "3", "3", "-2", "sound", "one"])
        self.assertEqual(desk.do_all("undo", "coins", "follows", "redo", "coins", "follows"), ["stop 1", "4", "one", "stop 1", "1", "-"])
        self.assertIs(desk.is_stopped, True)
        self.assertEqual(desk.do_all("undo", "undo", "hear a"), ["stop 1", "hear b", "4"])
        self.assertIs(desk.is_stopped, False)

    def test_where_something_can_still_be_heard(self):
        desk = desk_of(number=4)
        self.assertEqual(desk.do_all("hold 2", "stop 0", "gains", "next", "position", "coins"), ["a -1 b 1", "4", "a 0 b 0", "a b", "0", "4"])

    def test_places(self):
        desk = Desk(BARRED, TOLLED, 5)
        for place in (1, 2, 4, 8, 999999):
            self.assertEqual(raised(desk.do, f"stop {place}"), ("UnknownPlace", place))
        self.assertEqual(desk.do_all("stop 3", "undo", "stop 0"), ["4", "stop 3", "5"])


class Plans(unittest.TestCase):
    def test_kept_under_names(self):
        desk = desk_of()
        desk["b2"] = BUYING
        desk["a"] = {key: (coins, tuple(position)) for key, (coins, position) in LENGTH_PLAN.items()}
        self.assertTrue(is_same(desk["b2"], {START: (Ratio(3), [Ratio(0)]), ENDED: (Ratio(3), [Ratio(2)])}))
        self.assertTrue(is_same(desk["a"], {key: (Ratio.total([LENGTH_PLAN[key][0]]), [Ratio.total([part]) for part in LENGTH_PLAN[key][1]])
                                            for key in sorted(LENGTH_PLAN)}))
        self.assertEqual(desk.do("plans"), "a b2")
        self.assertEqual(len(desk), 0)
        self.assertEqual(raised(desk.do, "undo"), ("NothingToUndo",))
        self.assertEqual([name in desk for name in ("a", "b2", "b", "", "a ", None, 0, True, ("a",), [], {})], [True, True] + [False] * 9)
        for value in [*ODD_VALUES, "b", "b22", "B2", 0]:
            self.assertEqual(raised(lambda name: desk[name], value), ("UnknownName", value))
            self.assertIs(value in desk, False)

    def test_what_is_passed_may_be_changed(self):
        plan = {START: (3, [0]), ENDED: (3, [2])}
        desk = desk_of(x=plan)
        plan[ENDED][1].append(9)
        plan.clear()
        self.assertEqual(desk["x"], {START: (Ratio(3), [Ratio(0)]), ENDED: (Ratio(3), [Ratio(2)])})

    def keep(self, desk, name, plan):
        desk[name] = plan

    def test_names_that_are_none_or_taken(self):
        desk = desk_of(a=FOLDED)
        for value in [*ODD_VALUES, "1a", "A", "a b", "abcdefghi", "a_", "-", "aB", " a", 0, ("a",)]:
            self.assertEqual(raised(self.keep, desk, value, None), ("InvalidName", value))
        self.assertEqual(raised(self.keep, desk, "a", None), ("NameTaken", "a"))
        for name in ("b", "abcdefgh", "a1234567", "zz9", "follow"):
            self.assertIsNone(raised(self.keep, desk, name, FOLDED))

    def test_plans_that_are_none(self):
        desk = desk_of()
        short = {**LENGTH_PLAN, (START, 2): (2, [Ratio(3, 2)])}
        long = {(START, left): (3, [0]) for left in range(14)} | {(ENDED, left): (3, [0]) for left in range(13)}
        for value in [*ODD_VALUES, short, {START: (3, [0])}, {START: (2, [0]), ENDED: (3, [0])}, {**FOLDED, **LENGTH_PLAN}, list(FOLDED.items()),
                      {START: (0, {"a": 1, "b": 1}), ENDED: (1, {})}, {START: (3, [0], [0]), ENDED: (3, [0], [0])}, {START: (3, [True]), ENDED: (3, [0])},
                      {START: [3, [0]], ENDED: (3, [0])}, long]:
            self.assertEqual(raised(self.keep, desk, "x", value), ("InvalidPlan", value))
        self.assertIs("x" in desk, False)
        self.assertIsNone(raised(self.keep, desk, "x", length_plan(WAIT, DUE, 12)))

    def test_a_thirteenth_plan(self):
        desk = desk_of(**{f"p{at}": FOLDED for at in range(12)})
        self.assertEqual(raised(self.keep, desk, "x", FOLDED), ("TooMany", "plans", 12))
        self.assertEqual(raised(self.keep, desk, "x", None), ("InvalidPlan", None))
        self.assertEqual(raised(self.keep, desk, "p1", None), ("NameTaken", "p1"))
        self.assertEqual(len(desk.do("plans").split()), 12)

    def test_a_folded_plan_is_followed(self):
        desk = desk_of(number=3, one=BUYING)
        self.assertEqual(desk.do_all("follow one", "position", "follows", "hear a", "position", "hear b", "position", "follows", "short"),
                         ["enough", "0", "one", "3", "0", "3", "2", "one", "-"])

    def test_short_enough_and_none(self):
        half = length_plan(WAIT, DUE, 1)
        self.assertEqual(half[START, 1], (Ratio(3, 2), [Ratio(3)]))
        desk = desk_of(number=2, one=half, two=FOLDED)
        self.assertEqual(desk.do_all("follow one", "position", "follow two", "position", "follow one", "hear a", "position", "coins", "follows"),
                         ["enough", "3", "short", "0", "enough", "1/2", "0", "1/2", "one"])
        # All letters of the plan were heard: it has no further keys.
        self.assertEqual(desk.do_all("hear a", "position", "follows", "follow one", "position", "follows"), ["1/2", "0", "one", "none", "0", "one"])
        less = desk_of(number=Ratio(7, 5), one=half)
        self.assertEqual(less.do_all("follow one", "position"), ["short", "3"])

    def test_a_length_plan_from_later_on(self):
        desk = desk_of(number=Ratio(9, 4), two=LENGTH_PLAN)
        self.assertEqual(desk.do_all("hear a", "follow two", "position", "hear b", "coins", "short"), ["9/4", "enough", "3", "15/4", "15/4", "-"])
        desk = desk_of(number=Ratio(9, 4), two=LENGTH_PLAN)
        self.assertEqual(desk.do_all("follow two", "position", "hear a", "coins", "position", "hear b", "coins", "position", "short"),
                         ["enough", "3/2", "3/2", "3/2", "3", "3", "3", "0", "-"])

    def test_left_and_ended_by_holding(self):
        desk = desk_of(number=Ratio(9, 4), two=LENGTH_PLAN)
        self.assertEqual(desk.do_all("follow two", "leave", "follows", "position", "hear a", "position", "follow two", "hold 1", "follows", "hear a", "position"),
                         ["enough", "done", "-", "0", "9/4", "0", "enough", "a -1/2 b 1/2", "-", "7/4", "0"])
        self.assertEqual(desk.do_all("leave", "leave", "undo", "undo", "undo", "position", "undo", "follows", "position"),
                         ["done", "done", "leave", "leave", "hear a", "1", "hold 1", "two", "3"])

    def test_names_that_are_not_kept(self):
        desk = desk_of(one=FOLDED)
        self.assertEqual(raised(desk.do, "follow two"), ("UnknownName", "two"))
        self.assertEqual(len(desk), 0)

    def test_who_follows_with_enough_is_never_short(self):
        chance = random.Random(781)
        seen = 0
        for _ in range(60):
            market = random_market(chance)
            claim = random_claim(chance, market, -1, 1)
            plan = folded_plan(market, claim)
            many = chance.randint(1, 5)
            for kept in [length_plan(market, claim, many)] + ([plan] if plan else []):
                first = Told(market).first
                number = kept[first][0] if kept is plan else kept[first, many][0]
                desk = desk_of(market, claim, number + chance.choice([0, 1, HALF]), p=kept)
                self.assertEqual(desk.do("follow p"), "enough")
                for _ in range(many if kept is not plan else 8):
                    letters = desk.do("next")
                    if letters != "-":
                        desk.do("hear " + chance.choice(letters.split()))
                        seen += 1
                self.assertEqual(desk.do("short"), "-")
        self.assertGreater(seen, 150)


class Questions(unittest.TestCase):
    def test_examples(self):
        desk = Desk(BARRED, TOLLED, Ratio(7, 2))
        self.assertEqual(desk.do_all("word", "stand", "coins", "floor", "short", "position", "follows", "plans", "next", "live", "gains"),
                         ["-", "0 3 at 0", "7/2", "1", "-", "0", "-", "-", "a b", "a", "a 0 b 0"])
        self.assertEqual(desk.do_all("need 0", "need 1", "need 12", "cover", "spare", "kind"), ["1", "5/2", "5/2", "never", "never", "bounded"])
        self.assertEqual(desk.do_all("hear a", "need 3", "cover", "spare", "kind", "live", "floor"), ["3", "2", "2", "1", "sound", "-", "2"])
        self.assertEqual(desk.do_all("undo", "hear b", "need 3", "cover", "spare", "kind", "floor"), ["hear a", "7/2", "3", "never", "never", "endless", "0"])
        self.assertEqual(len(desk), 1)

    def test_the_cover_from_a_sound_stand(self):
        """The first stand leads to a ring that owes, the one behind a doesn't."""
        self.assertEqual(Desk(FAR, COSTLY, 1).do_all("cover", "kind"), ["never", "endless"])
        net = Market(Machine(3, [(0, "a", 1), (0, "b", 2), (2, "b", 2), (1, "a", 1)], [0]), "ab", Board([[({"a": 1}, 1, 1)]]))
        desk = Desk(net, Claim({1: 4}, {"b": 1, "a": -1}), 3)
        self.assertEqual(desk.do_all("cover", "hear a", "cover", "spare"), ["never", "4", "4", "0"])

    def test_by_chance(self):
        chance = random.Random(782)
        for _ in range(40):
            market = barring_market(chance) if chance.random() < 0.4 else random_market(chance)
            claim, told = random_claim(chance, market, -1, 1), Told(market)
            desk, sorts, least = Desk(market, claim, random_number(chance)), kinds(market, claim), limits(market, claim)
            for _ in range(5):
                stand, many = desk.stand, chance.randint(0, 4)
                self.assertEqual(desk.do("kind"), sorts[stand])
                self.assertEqual(desk.do("cover"), str(least[stand]) if sorts[stand] == "sound" else "never")
                self.assertEqual(desk.do("spare"), str(desk.coins - least[stand]) if sorts[stand] == "sound" else "never")
                self.assertEqual(desk.do(f"need {many}"), str(need_from(market, claim, stand, many)))
                self.assertEqual(desk.do("live"), " ".join(told.live(stand)) or "-")
                self.assertEqual(desk.do("next"), " ".join(told.leads[stand]) or "-")
                self.assertEqual(desk.do("floor"), str(ratio(told.floor(claim, stand))))
                self.assertEqual(desk.do("stand"), " ".join(map(str, stand[0])) + f" at {stand[1]}")
                if told.leads[stand]:
                    desk.do("hear " + chance.choice(list(told.leads[stand])))

    def test_errors(self):
        desk = desk_of()
        self.assertEqual(raised(desk.do, "need 13"), ("TooMany", "letters", 12))
        for value in [*ODD_VALUES, "hear", "need", "hold 2/4", "x", 0]:
            self.assertEqual(raised(desk.do, value), ("InvalidCommand", value))
            self.assertEqual(raised(desk, value), ("InvalidCommand", value))
        self.assertEqual([desk(command="coins") for _ in range(2)], ["3", "3"])
        self.assertEqual(desk.do(command="word"), "-")


class Undoing(unittest.TestCase):
    def test_undo_and_redo(self):
        desk = desk_of(one=BUYING)
        self.assertEqual(desk.do_all("follow one", "hear a", "hold 1", "leave", "stop 0"), ["enough", "3", "a -1/2 b 1/2", "done", "3"])
        self.assertEqual(len(desk), 5)
        states = []
        while len(desk):
            states.append((desk.coins, desk.word, desk.stand, desk.held, desk.is_stopped, desk.do("follows")))
            self.assertEqual(desk.do("undo"), ["follow one", "hear a", "hold 1", "leave", "stop 0"][len(desk)])
        self.assertEqual(raised(desk.do, "undo"), ("NothingToUndo",))
        self.assertEqual((desk.held, desk.do("follows")), ([Ratio(0)], "-"))
        for state in states[::-1]:
            self.assertEqual(desk.do("redo"), ["follow one", "hear a", "hold 1", "leave", "stop 0"][len(desk) - 1])
            self.assertTrue(is_same(state, (desk.coins, desk.word, desk.stand, desk.held, desk.is_stopped, desk.do("follows"))))
        self.assertEqual(raised(desk.do, "redo"), ("NothingToRedo",))

    def test_a_deed_ends_what_can_be_done_again(self):
        desk = desk_of()
        desk.do_all("hear a", "hear a", "undo", "undo", "redo", "coins", "need 2")
        desk["one"] = FOLDED
        self.assertEqual(desk.do("redo"), "hear a")
        desk.do_all("undo", "leave")
        self.assertEqual(raised(desk.do, "redo"), ("NothingToRedo",))
        self.assertEqual(desk.log(), ["hear a", "leave"])
        self.assertEqual(desk.do("plans"), "one")
        # A deed that fails ends nothing.
        desk.do("undo")
        self.assertEqual(raised(desk.do, "hear z"), ("UnheardLetter", "z"))
        self.assertEqual(desk.do("redo"), "leave")

    def test_plans_stay(self):
        desk = desk_of()
        desk.do("hear a")
        desk["one"] = FOLDED
        self.assertEqual(desk.do_all("undo", "plans"), ["hear a", "one"])

    def test_300_deeds_and_one_more(self):
        desk = Desk.again(SWING, Claim({0: 1}), 1, {}, ["leave"] * 150 + ["hear a", "hear b"] * 75)
        self.assertEqual(len(desk), 300)
        self.assertEqual(raised(desk.do, "leave"), ("TooMany", "deeds", 300))
        self.assertEqual([raised(desk.do, line) for line in ("hear z", "hold 1 1", "follow x", "stop 7", "redo")],
                         [("UnheardLetter", "z"), ("InvalidHold", None), ("UnknownName", "x"), ("UnknownPlace", 7), ("NothingToRedo",)])
        self.assertEqual(desk.do_all("coins", "undo", "redo", "undo", "leave"), ["1", "hear b", "hear b", "hear b", "done"])
        self.assertEqual(raised(desk.do, "hold 0"), ("TooMany", "deeds", 300))
        self.assertEqual(raised(Desk.again, SWING, Claim({0: 1}), 1, {}, ["leave"] * 301), ("CommandFailed", 300))


class Together(unittest.TestCase):
    def test_do_all_does_all_or_none(self):
        desk = desk_of(one=FOLDED)
        desk.do_all("hear a", "undo")
        before = state_of(desk)
        for lines, position, cause in ((("hear a", "hold 1", "hear z"), 2, ("UnheardLetter", "z")), (("hear b", "hear b"), 1, ("NotNext", "b")),
                                       (("undo",), 0, ("NothingToUndo",)), (("redo", "redo"), 1, ("NothingToRedo",)), (("leave", None), 1, ("InvalidCommand", None)),
                                       (("hold 1 1", "x"), 0, ("InvalidHold", None)), (("stop 0", "coins", "leave"), 2, ("Stopped",)), (("need 13",), 0, ("TooMany", "letters", 12))):
            for call in (desk.do_all, desk.attempt):
                with self.assertRaises(CommandFailed) as caught:
                    call(*lines)
                self.assertEqual(caught.exception.position, position)
                why = caught.exception.__cause__
                self.assertEqual((why.__class__.__name__, *vars(why).values()), cause)
                self.assertTrue(is_same(state_of(desk), before))
        self.assertEqual((desk.do_all(), desk.attempt()), ([], []))
        self.assertEqual(desk.do_all("redo", "coins"), ["hear a", "3"])

    def test_attempt(self):
        desk = desk_of(one=FOLDED)
        desk.do_all("hear a", "hold 1", "undo")
        before = state_of(desk)
        self.assertEqual(desk.attempt("redo", "hear b", "short", "undo", "leave", "follow one", "stop 0"),
                         ["hold 1", "7/2", "-", "hear b", "done", "enough", "3"])
        self.assertTrue(is_same(state_of(desk), before))

    def test_trials(self):
        desk = desk_of()
        desk.do_all("hear a", "hold 1", "undo")
        before = state_of(desk)
        with Trial(desk) as held:
            self.assertIs(held, desk)
            desk.do_all("redo", "hear b", "stop 1")
            desk["x"] = FOLDED
            with Trial(desk=desk) as inner:
                inner.do_all("undo", "undo")
            self.assertEqual((desk.word, desk.is_stopped, desk.do("plans")), ("ab", True, "x"))
        self.assertTrue(is_same(state_of(desk), before))

    def test_a_trial_that_an_error_leaves(self):
        desk = desk_of()
        before = state_of(desk)
        with self.assertRaises(StateError):
            with Trial(desk) as held:
                held["x"] = FOLDED
                held.do("hear a")
                held.do("redo")
        with self.assertRaises(KeyError):
            with Trial(desk) as held:
                held.do("hear a")
                raise KeyError("own")
        self.assertTrue(is_same(state_of(desk), before))

    def test_a_trial_serves_again(self):
        desk = desk_of()
        trial = Trial(desk)
        desk.do("hear a")
        for _ in range(2):
            with trial as held:
                held.do("hear a")
            self.assertEqual(desk.log(), ["hear a"])
            desk.do_all("hear a", "undo")

    def test_tried(self):
        desk = desk_of()
        before = state_of(desk)
        self.assertEqual(tried(desk=desk, action=lambda held: (held.do("hear b"), held is desk, held.do("short"))), ("3", True, "-"))
        self.assertTrue(is_same(state_of(desk), before))
        self.assertEqual(raised(tried, desk, lambda held: held.do_all("hear a", "hold 1 1")), ("CommandFailed", 1))
        self.assertTrue(is_same(state_of(desk), before))
        with self.assertRaises(InvalidHold):
            tried(desk, lambda held: held("hold 1 1"))

    def test_log_and_copy(self):
        desk = desk_of(one=FOLDED)
        desk.do_all("hear a", "hold 1", "coins", "leave", "undo")
        self.assertEqual(desk.log(), ["hear a", "hold 1"])
        other = desk.copy()
        self.assertTrue(is_same(state_of(other), state_of(desk)))
        before = state_of(desk)
        other.do_all("redo", "hear b", "stop 1")
        other["two"] = FOLDED
        self.assertTrue(is_same(state_of(desk), before))
        desk.do_all("undo", "undo", "follow one")
        self.assertEqual((other.log(), desk.log(), other.do("plans")), (["hear a", "hold 1", "leave", "hear b", "stop 1"], ["follow one"], "one two"))
        self.assertEqual((other.market, other.claim), (WAIT, DUE))


class Again(unittest.TestCase):
    def test_examples(self):
        desk = Desk.again(market=WAIT, claim=DUE, number=3, plans={"two": FOLDED, "one": LENGTH_PLAN}, lines=("hear a", "follow two", "hear b", "stop 1"))
        self.assertEqual((desk.coins, desk.log(), desk.do("plans")), (Ratio(0), ["hear a", "follow two", "hear b", "stop 1"], "one two"))
        self.assertEqual(desk.do_all("undo", "follows"), ["stop 1", "two"])
        self.assertTrue(is_same(state_of(Desk.again(WAIT, DUE, 3, {}, [])), state_of(Desk(WAIT, DUE, 3))))

    def test_a_desk_from_its_log(self):
        chance = random.Random(783)
        for market, claim, desk, plans, number in desks_by_chance(chance, 25):
            fresh = Desk.again(market, claim, number, plans, desk.log())
            # What can be done again is not in the log.
            self.assertTrue(is_same(state_of(fresh)[:-1], state_of(desk)[:-1]))

    def test_errors_in_their_sequence(self):
        bad = Claim({7: 1})
        for value in [*ODD_VALUES, "1"]:
            self.assertEqual(raised(Desk.again, WAIT, bad, value, None, None), ("InvalidNumber", value))
        self.assertEqual(raised(Desk.again, WAIT, bad, 1, None, None), ("UnknownPlace", 7))
        for value in [value for value in ODD_VALUES if not isinstance(value, dict)] + ["1", [("a", FOLDED)]]:
            self.assertEqual(raised(Desk.again, WAIT, DUE, 1, value, None), ("InvalidPlans", value))
        self.assertEqual(raised(Desk.again, WAIT, DUE, 1, {"b": None, "a": None, 3: None, None: None}, None), ("InvalidName", 3))
        self.assertEqual(raised(Desk.again, WAIT, DUE, 1, {"b": None, None: None, 3: None}, None), ("InvalidName", None))
        self.assertEqual(raised(Desk.again, WAIT, DUE, 1, {"b": None, "a": FOLDED, "A": None}, None), ("InvalidName", "A"))
        self.assertEqual(raised(Desk.again, WAIT, DUE, 1, {"b": None, "a": {}}, None), ("InvalidPlan", {}))
        many = {f"p{at}": FOLDED for at in range(10, 23)}
        self.assertEqual(raised(Desk.again, WAIT, DUE, 1, many, None), ("TooMany", "plans", 12))
        self.assertEqual(raised(Desk.again, WAIT, DUE, 1, {**many, "p22": None}, None), ("InvalidPlan", None))
        self.assertEqual(raised(Desk.again, WAIT, DUE, 1, {**many, "p23": None}, None), ("TooMany", "plans", 12))

    def test_lines(self):
        for value in [value for value in ODD_VALUES if not isinstance(value, (list, tuple))] + ["hear a", {"hear a": 1}]:
            self.assertEqual(raised(Desk.again, WAIT, DUE, 1, {}, value), ("InvalidLines", None))
        for lines, position in (([None], 0), (["hear z", "undo"], 1), (["coins"], 0), (["hear z", "hear a", "hear"], 2), (("leave", "redo"), 1), ([["hear a"]], 0)):
            self.assertEqual(raised(Desk.again, WAIT, DUE, 1, {}, lines), ("InvalidLines", position))
        for lines, position, cause in ((["hear z"], 0, ("UnheardLetter", "z")), (["hear b", "hear b"], 1, ("NotNext", "b")), (["follow x"], 0, ("UnknownName", "x")),
                                       (["stop 0", "leave"], 1, ("Stopped",)), (["leave", "hold"], 1, ("InvalidHold", None))):
            with self.assertRaises(CommandFailed) as caught:
                Desk.again(WAIT, DUE, 1, {}, lines)
            why = caught.exception.__cause__
            self.assertEqual((caught.exception.position, why.__class__.__name__, *vars(why).values()), (position, *cause))


class Model:
    """A desk by the words of the document, which keeps all that it ever was."""

    def __init__(self, market, claim, number, plans):
        self.told, self.claim, self.plans = Told(market), claim, plans
        self.quotes = [market.board.quotes(state) for state in range(market.board.states)]
        self.now = {"coins": fraction(number), "word": "", "held": None, "follows": None, "stopped": False, "shorts": []}
        self.now["held"] = self.noughts()
        self.check_short()
        self.done, self.undone = [], []

    def stand(self):
        return self.told.passed(self.now["word"])[-1]

    def noughts(self):
        return [0] * len(self.quotes[self.stand()[1]])

    def check_short(self):
        if self.now["coins"] < self.told.floor(self.claim, self.stand()):
            self.now["shorts"] = self.now["shorts"] + [len(self.now["word"])]

    def entry(self, name):
        plan = self.plans[name]
        if any(isinstance(key[0][0], tuple) for key in plan):
            many = max(left for _, left in plan)
            return plan.get((self.stand(), many - len(self.now["word"])))
        return plan[self.stand()]

    def follow(self):
        entry = self.entry(self.now["follows"]) if self.now["follows"] else None
        self.now["held"] = [fraction(part) for part in entry[1]] if entry else self.noughts()
        return entry

    def gains(self):
        gains = self.told.gains(self.stand(), self.now["held"])
        return " ".join(f"{letter} {number_text(ratio(gains[letter]))}" for letter in sorted(gains)) or "-"

    def deed(self, line):
        word, *rest = line.split(" ")
        before = dict(self.now)
        self.now = dict(self.now)
        answer = getattr(self, "do_" + word)(*rest)
        self.done.append((line, before))
        self.undone = []
        return answer

    def do_hear(self, letter):
        gained = self.told.gains(self.stand(), self.now["held"])[letter]
        self.now["coins"] += gained - fraction(self.claim.toll(letter))
        self.now["word"] += letter
        self.check_short()
        self.follow()
        return number_text(ratio(self.now["coins"]))

    def do_hold(self, *numbers):
        self.now["held"], self.now["follows"] = [fraction_of(text) for text in numbers], None
        return self.gains()

    def do_follow(self, name):
        self.now["follows"] = name
        entry = self.follow()
        if entry is None:
            return "none"
        return "enough" if self.now["coins"] >= fraction(entry[0]) else "short"

    def do_leave(self):
        self.now["held"], self.now["follows"] = self.noughts(), None
        return "done"

    def do_stop(self, place):
        self.do_leave()
        self.now["coins"] -= fraction(self.claim.due(int(place)))
        self.now["stopped"] = True
        return number_text(ratio(self.now["coins"]))

    def undo(self):
        line, before = self.done.pop()
        self.undone.append((line, self.now))
        self.now = before
        return line

    def redo(self):
        line, behind = self.undone.pop()
        self.done.append((line, self.now))
        self.now = behind
        return line


def fraction_of(text):
    top, _, bottom = text.partition("/")
    return fraction(Ratio(int(top), int(bottom or 1)))


def line_by_chance(chance, desk):
    """A deed that the desk can do."""
    quotes, letters = desk.market.board.quotes(desk.stand[1]), desk.do("next")
    kind = chance.random()
    if kind < 0.4 and letters != "-":
        return "hear " + chance.choice(letters.split())
    if kind < 0.6:
        numbers = [pieces_by_chance(chance, bid, ask) for _, bid, ask in quotes]
        return " ".join(["hold", *[number_text(number) for number in numbers]])
    if kind < 0.8 and desk.do("plans") != "-":
        return "follow " + chance.choice(desk.do("plans").split())
    if kind < 0.9:
        return "leave"
    return f"stop {chance.choice(desk.stand[0])}" if chance.random() < 0.5 else "leave"


def pieces_by_chance(chance, bid, ask):
    """So many pieces, bought or sold, as can be held."""
    number = random_number(chance, 0, 3)
    if ask is None or bid is not None and chance.random() < 0.5:
        return Ratio(0) - number
    return number


def desks_by_chance(chance, rounds, steps=14):
    for _ in range(rounds):
        market = random_market(chance)
        claim, number = random_claim(chance, market, -1, 1), random_number(chance, 0, 4)
        plans = {"l" + str(many): length_plan(market, claim, many) for many in (0, 1, 3)}
        if folded_plan(market, claim):
            plans["f"] = folded_plan(market, claim)
        desk = desk_of(market, claim, number, **plans)
        for _ in range(steps):
            if chance.random() < 0.2 and len(desk):
                desk.do("undo")
            elif not desk.is_stopped:
                desk.do(line_by_chance(chance, desk))
        yield market, claim, desk, plans, number


class ByChance(unittest.TestCase):
    def test_against_the_words_of_the_document(self):
        chance = random.Random(784)
        answers = {}
        for market, claim, _, plans, number in desks_by_chance(chance, 60, 0):
            desk, model = desk_of(market, claim, number, **plans), Model(market, claim, number, plans)
            for _ in range(25):
                kind = chance.random()
                if kind < 0.15 and model.done:
                    self.assertEqual(desk.do("undo"), model.undo())
                elif kind < 0.25 and model.undone:
                    self.assertEqual(desk.do("redo"), model.redo())
                elif not model.now["stopped"]:
                    line = line_by_chance(chance, desk)
                    self.assertTrue(is_deed(line))
                    answer = desk.do(line)
                    self.assertEqual(answer, model.deed(line), line)
                    answers[answer] = True
                now = model.now
                self.assertEqual((fraction(desk.coins), desk.word, desk.stand, desk.is_stopped), (now["coins"], now["word"], model.stand(), now["stopped"]))
                self.assertEqual([fraction(part) for part in desk.held], now["held"])
                self.assertEqual(desk.do_all("coins", "word", "short", "follows", "gains", "position", "plans"),
                                 [number_text(desk.coins), desk.word or "-", " ".join(map(str, now["shorts"])) or "-", now["follows"] or "-", model.gains(),
                                  " ".join(number_text(ratio(part)) for part in now["held"]) or "-", " ".join(sorted(plans))])
                self.assertEqual((desk.log(), len(desk)), ([line for line, _ in model.done], len(model.done)))
        self.assertTrue({"enough", "short", "none", "done"} <= set(answers))


if __name__ == "__main__":
    unittest.main()
