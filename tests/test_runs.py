"""Runs: deeds that are ready, works and comings, falls, what is left, and the log."""

import unittest

from shardask.errors import NoHouse, NoPlan, NotEnded, NotReady, ShardError, Unsound
from shardask.parts import parts, sent, told
from shardask.runs import Run
from shardask.towns import Town
from tests.test_parts import AHEAD, FAULTS
from tests.test_parts import TOWN as PARTS_TOWN
from tests.things import STRANGE, STRANGE_TUPLES, Sulky

HEAD = (("a", "number"), ("b", "word"))
ROWS = [(0, "p"), (1, "p"), (1, "p"), (2, "q"), (4, "q"), (5, "r")]
TABLES = {
    "c": (HEAD, ("copies",), ROWS), "k": (HEAD, ("keys", "a"), ROWS),
    "s": (HEAD, ("spans", "a", ((None, 1), (2, 0))), ROWS),
}
TWO, THREE = Town(2, TABLES), Town(3, TABLES)
COUNT = ("count", None, "n")
# Of keys a in two houses: 0, 2, 4 in house 0 and 1, 1, 5 in house 1.
COPY = [("scan", "k"), ("copy", 0)]
GROUP = [("scan", "k"), ("part", 0, ("b",), (COUNT,)), ("deal", 1, "b"), ("merge", 2)]


def works(number, *houses):
    return [("work", number, house) for house in houses]


def do_all(run, deeds):
    for deed in deeds:
        run.do(deed)


def do_to_the_end(run):
    while not run.ended():
        run.do(run.ready()[0])


class RunCase(unittest.TestCase):
    def refuses(self, error, call, *given):
        with self.assertRaises(ShardError) as taken:
            call(*given)
        self.assertIs(taken.exception.__class__, error, given)
        self.assertIsNone(taken.exception.act)

    def state(self, run, acts=6, houses=6):
        there = [run.there(act, house) for act in range(acts) for house in range(houses)]
        return run.ready(), run.left(), run.ended(), run.log(), there


class ReadyTest(RunCase):
    def test_deed_by_deed(self):
        run = Run(TWO, COPY)
        come01, come10 = ("come", 1, 0, 1), ("come", 1, 1, 0)
        steps = [
            (None, works(0, 0, 1), 6),
            (("work", 0, 1), [("work", 0, 0), ("work", 1, 1)], 5),
            (("work", 1, 1), [come10, ("work", 0, 0)], 4),
            (come10, [("work", 0, 0)], 3),
            (("work", 0, 0), [("work", 1, 0)], 2),
            (("work", 1, 0), [come01], 1),
            (come01, [], 0),
        ]
        for deed, ready, left in steps:
            if deed is not None:
                self.assertIsNone(run.do(deed))
            self.assertEqual(run.ready(), ready)
            self.assertEqual(run.left(), left)
            self.assertIs(run.ended(), left == 0)
        self.assertEqual(run.log(), [(1, 1, 0, 3), (1, 0, 1, 3)])
        self.assertEqual(run.answer(), sorted(ROWS))

    def test_the_beginning(self):
        # Every scan is ready in each house, and nothing else.
        plan = [("scan", "k"), ("copy", 0), ("scan", "c"), ("join", 1, 2, (("a", "a"), ("b", "b"))), ("scan", "s")]
        self.assertEqual(Run(THREE, plan).ready(), works(0, 0, 1, 2) + works(2, 0, 1, 2) + works(4, 0, 1, 2))

    def test_comings_are_sorted_ahead_of_works(self):
        run = Run(THREE, [("scan", "k"), ("copy", 0), ("scan", "c")])
        do_all(run, [("work", 0, 2), ("work", 1, 2), ("work", 0, 0), ("work", 1, 0)])
        self.assertEqual(run.ready(), [
            ("come", 1, 0, 1), ("come", 1, 0, 2), ("come", 1, 2, 0), ("come", 1, 2, 1),
            ("work", 0, 1), ("work", 2, 0), ("work", 2, 1), ("work", 2, 2)])

    def test_numbers_sorted_by_size(self):
        run = Run(TWO, [("scan", "c")] * 12)
        self.assertEqual(run.ready(), [("work", act, house) for act in range(12) for house in range(2)])

    def test_join_waits_for_both(self):
        run = Run(TWO, [("scan", "k"), ("scan", "c"), ("join", 0, 1, (("a", "a"), ("b", "b")))])
        run.do(("work", 0, 0))
        self.assertNotIn(("work", 2, 0), run.ready())
        run.do(("work", 1, 1))
        self.assertNotIn(("work", 2, 0), run.ready())
        self.assertNotIn(("work", 2, 1), run.ready())
        run.do(("work", 1, 0))
        self.assertIn(("work", 2, 0), run.ready())
        run.do(("work", 0, 1))
        self.assertIn(("work", 2, 1), run.ready())

    def test_an_act_behind_a_sending_one_waits_for_all_bundles(self):
        run = Run(THREE, GROUP)
        for act in range(3):
            do_all(run, works(act, 0, 1, 2))
        self.assertEqual(run.ready(), [("come", 2, here, to) for here in range(3) for to in range(3) if here != to])
        run.do(("come", 2, 0, 1))
        self.assertNotIn(("work", 3, 1), run.ready())
        run.do(("come", 2, 2, 1))
        self.assertIn(("work", 3, 1), run.ready())
        self.assertNotIn(("work", 3, 0), run.ready())

    def test_own_work_of_the_sending_act_is_asked_too(self):
        run = Run(TWO, COPY + [("named", 1, ("f", "g"))])
        do_all(run, [("work", 0, 1), ("work", 1, 1), ("come", 1, 1, 0)])
        self.assertIsNone(run.there(1, 0))
        self.assertEqual(run.ready(), [("work", 0, 0)])
        run.do(("work", 0, 0))
        self.assertEqual(run.ready(), [("work", 1, 0)])
        run.do(("work", 1, 0))
        self.assertEqual(run.there(1, 0), sorted(ROWS))
        self.assertEqual(run.ready(), [("come", 1, 0, 1), ("work", 2, 0)])


class BundlesTest(RunCase):
    def comings(self, town, plan):
        run = Run(town, plan)
        seen = []
        while not run.ended():
            ready = run.ready()
            seen += [deed for deed in ready if deed[0] == "come" and deed not in seen]
            run.do(ready[-1])
        return sorted(seen), run

    def test_deal_and_copy_for_each_other_house(self):
        for send in (("deal", 0, "a"), ("deal", 0, "b"), ("copy", 0)):
            for town in (TWO, THREE):
                houses = town.houses()
                comings, run = self.comings(town, [("scan", "s"), send])
                self.assertEqual(comings, [("come", 1, here, to) for here in range(houses) for to in range(houses)
                                           if here != to])
                self.assertEqual(Run(town, [("scan", "s"), send]).left(), 2 * houses + houses * (houses - 1))

    def test_empty_ones_too(self):
        # Dealt as it stands already: each bundle is empty, and comes all the same.
        comings, run = self.comings(TWO, [("scan", "k"), ("deal", 0, "a")])
        self.assertEqual(comings, [("come", 1, 0, 1), ("come", 1, 1, 0)])
        self.assertEqual(sorted(run.log()), [(1, 0, 1, 0), (1, 1, 0, 0)])
        self.assertEqual(run.answer(), sorted(ROWS))

    def test_bring_for_its_house_alone(self):
        for house in range(3):
            plan = [("scan", "s"), ("bring", 0, house)]
            comings, run = self.comings(THREE, plan)
            self.assertEqual(comings, [("come", 1, here, house) for here in range(3) if here != house])
            self.assertEqual(Run(THREE, plan).left(), 6 + 2)
            self.assertEqual(run.there(1, house), sorted(ROWS))
            for other in range(3):
                if other != house:
                    self.assertEqual(run.there(1, other), [])

    def test_bring_is_there_elsewhere_at_once(self):
        run = Run(THREE, [("scan", "s"), ("bring", 0, 1)])
        do_all(run, [("work", 0, 0), ("work", 1, 0)])
        self.assertEqual(run.there(1, 0), [])
        do_all(run, [("work", 0, 1), ("work", 1, 1)])
        self.assertIsNone(run.there(1, 1))

    def test_none_of_what_is_copied(self):
        for send in (("deal", 0, "a"), ("copy", 0), ("bring", 0, 1)):
            comings, run = self.comings(THREE, [("scan", "c"), send])
            self.assertEqual((comings, run.log()), ([], []))
            self.assertEqual(Run(THREE, [("scan", "c"), send]).left(), 6)
            self.assertEqual(run.answer(), sorted(ROWS))
            self.assertEqual([run.there(1, house) for house in range(3)], parts(THREE, [("scan", "c"), send])[1])

    def test_none_in_a_town_of_one_house(self):
        town = Town(1, {"k": TABLES["k"]})
        for send in (("deal", 0, "b"), ("copy", 0), ("bring", 0, 0)):
            comings, run = self.comings(town, [("scan", "k"), send])
            self.assertEqual(comings, [])
            self.assertEqual(run.answer(), sorted(ROWS))


class NotReadyTest(RunCase):
    def test_deeds_that_are_not_ready(self):
        run = Run(TWO, GROUP)
        do_all(run, [("work", 0, 0), ("work", 1, 0), ("work", 2, 0), ("come", 2, 0, 1)])
        before = self.state(run)
        for deed in (
                ("work", 0, 0), ("work", 1, 0), ("work", 2, 0), ("come", 2, 0, 1),  # done, come
                ("work", 3, 0), ("work", 1, 1), ("come", 2, 1, 0),  # not yet
                ("come", 2, 0, 0), ("come", 0, 0, 1), ("come", 1, 0, 1), ("come", 3, 0, 1),  # no such bundle
                ("work", 4, 0), ("work", -1, 0), ("work", 0, 2), ("work", 0, -1), ("come", 2, 0, 2), ("come", 2, 2, 0),
                ("come", -2, 0, 1), ("come", 2, -1, 1), ("work", 10 ** 59, 0)):
            self.refuses(NotReady, run.do, deed)
            self.assertEqual(self.state(run), before)
        run.do(("work", 0, 1))

    def test_what_is_no_deed(self):
        run = Run(TWO, COPY)
        run.do(("work", 0, 1))
        # Ready now: (work 0 0), (work 1 1).
        before = self.state(run)
        things = [
            ["work", 0, 0], ["work", 1, 1], ("work", False, 0), ("work", 0, False), ("work", True, 1),
            ("work", 1, True), ("work", True, True), ("work", 0.0, 0), ("work", 1, 1.0), ("work", "0", "0"),
            ("work", 0), ("work",), (), ("work", 0, 0, 0), ("work", (0, 0)), ("Work", 0, 0), ("work ", 0, 0),
            ("come", 0, 0), ("do", 0, 0), (b"work", 0, 0), ("work", None, 0), ("work", 0, None), ("work", [0], 0),
            ("work", {}, []), (0, 0), (0, 0, 0), ("work", Sulky(), 0), ("work", 0, Sulky()), (Sulky(), 0, 0),
            ([], 0, 0), "work", "work 0 0", 0, 1, "", "come", {"work": 0}, {("work", 0, 0)},
            frozenset((("work", 0, 0),)), (("work", 0, 0),), (None, 0, 0),
        ]
        for thing in things + STRANGE + STRANGE_TUPLES:
            self.refuses(NotReady, run.do, thing)
            self.assertEqual(self.state(run), before)
        do_all(run, [("work", 1, 1)])
        before = self.state(run)
        for thing in (("come", True, True, False), ("come", 1, True, 0), ("come", 1, 1, False), ("come", 1.0, 1, 0),
                      ["come", 1, 1, 0], ("come", 1, 1), ("come", 1, 1, 0, 0), ("work", 1, 1, 0), ("come", 1, [], {}),
                      ("come", Sulky(), Sulky(), Sulky()), ("come", 1, 1, None), ("come", 1, 0, 1)):
            self.refuses(NotReady, run.do, thing)
            self.assertEqual(self.state(run), before)
        run.do(("come", 1, 1, 0))

    def test_behind_the_end(self):
        run = Run(TWO, COPY)
        do_to_the_end(run)
        before = self.state(run)
        for deed in works(0, 0, 1) + works(1, 0, 1) + [("come", 1, 0, 1), ("come", 1, 1, 0)]:
            self.refuses(NotReady, run.do, deed)
        self.assertEqual(self.state(run), before)


class FallTest(RunCase):
    def test_works_undone_and_what_came_to_it(self):
        run = Run(TWO, COPY)
        do_to_the_end(run)
        self.assertEqual(run.left(), 0)
        self.assertIsNone(run.fall(0))
        # Two works, and the bundle that came to it.
        self.assertEqual(run.left(), 3)
        self.assertIs(run.ended(), False)
        self.assertEqual(run.ready(), [("come", 1, 1, 0), ("work", 0, 0)])
        # What came from it stays, so it is there where it was.
        self.assertEqual(run.there(1, 1), sorted(ROWS))
        self.assertIsNone(run.there(0, 0))
        self.assertIsNone(run.there(1, 0))
        self.refuses(NotReady, run.do, ("come", 1, 0, 1))
        self.refuses(NotEnded, run.answer)

    def test_what_came_from_it_does_not_come_again(self):
        run = Run(TWO, COPY)
        do_to_the_end(run)
        run.fall(0)
        do_all(run, [("work", 0, 0), ("work", 1, 0)])
        self.assertEqual(run.ready(), [("come", 1, 1, 0)])
        self.refuses(NotReady, run.do, ("come", 1, 0, 1))
        run.do(("come", 1, 1, 0))
        self.assertEqual(run.log(), [(1, 0, 1, 3), (1, 1, 0, 3), (1, 1, 0, 3)])
        self.assertEqual(run.answer(), sorted(ROWS))

    def test_a_bundle_that_has_not_come_waits_for_the_work(self):
        run = Run(TWO, COPY)
        do_all(run, [("work", 0, 0), ("work", 1, 0)])
        self.assertIn(("come", 1, 0, 1), run.ready())
        run.fall(0)
        self.assertEqual(run.ready(), works(0, 0, 1))
        self.refuses(NotReady, run.do, ("come", 1, 0, 1))
        self.assertEqual(run.left(), 6)
        do_to_the_end(run)
        self.assertEqual(len(run.log()), 2)

    def test_ahead_of_any_deed_and_twice(self):
        run = Run(THREE, GROUP)
        left = run.left()
        for house in (0, 1, 2, 2):
            run.fall(house)
            self.assertEqual(run.left(), left)
            self.assertEqual(run.ready(), works(0, 0, 1, 2))
        do_to_the_end(run)
        run.fall(1)
        run.fall(1)
        self.assertEqual(run.left(), 4 + 2)
        do_to_the_end(run)
        self.assertEqual(run.answer(), [("p", 3), ("q", 2), ("r", 1)])

    def test_a_fall_in_the_midst(self):
        run = Run(THREE, GROUP)
        for act in range(3):
            do_all(run, works(act, 0, 1, 2))
        do_all(run, [("come", 2, 1, 0), ("come", 2, 2, 0), ("come", 2, 0, 1), ("work", 3, 0)])
        left = run.left()
        run.fall(0)
        # Four works and two bundles to it are lost; (2, 0, 1) stays.
        self.assertEqual(run.left(), left + 6)
        self.assertEqual(run.ready(), [("come", 2, 1, 0), ("come", 2, 1, 2), ("come", 2, 2, 0), ("come", 2, 2, 1),
                                       ("work", 0, 0)])
        run.do(("come", 2, 2, 1))
        self.assertIn(("work", 3, 1), run.ready())
        do_to_the_end(run)
        self.assertEqual(run.answer(), [("p", 3), ("q", 2), ("r", 1)])
        self.assertEqual([entry[:3] for entry in run.log()].count((2, 0, 1)), 1)
        self.assertEqual([entry[:3] for entry in run.log()].count((2, 1, 0)), 2)

    def test_all_houses_fall(self):
        run = Run(THREE, GROUP)
        fresh = self.state(run)
        do_to_the_end(run)
        for house in range(3):
            run.fall(house)
        state = self.state(run)
        self.assertEqual(state[:3] + state[4:], fresh[:3] + fresh[4:])
        self.assertEqual(len(run.log()), 6)

    def test_no_house(self):
        run = Run(TWO, COPY)
        do_all(run, works(0, 0, 1))
        before = self.state(run)
        for thing in STRANGE + STRANGE_TUPLES + [-1, 2, 3, 10 ** 59, "0", "", "a", (0,), 1.0]:
            self.refuses(NoHouse, run.fall, thing)
            self.assertEqual(self.state(run), before)


class ThereTest(RunCase):
    def test_as_the_parts_at_the_end(self):
        for plan in (COPY, GROUP):
            run = Run(THREE, plan)
            do_to_the_end(run)
            self.assertEqual([[run.there(act, house) for house in range(3)] for act in range(len(plan))],
                             parts(THREE, plan))

    def test_rising(self):
        run = Run(TWO, [("scan", "s"), ("keep", 0, ("b",)), ("copy", 1)])
        do_to_the_end(run)
        self.assertEqual(run.there(2, 0), [("p",), ("p",), ("p",), ("q",), ("q",), ("r",)])
        self.assertEqual(run.there(0, 1), [(0, "p"), (1, "p"), (1, "p")])

    def test_there_with_no_rows(self):
        run = Run(THREE, [("scan", "s")])
        self.assertIsNone(run.there(0, 2))
        run.do(("work", 0, 2))
        self.assertEqual(run.there(0, 2), [])

    def test_acts_and_houses_that_are_none(self):
        run = Run(TWO, COPY)
        do_to_the_end(run)
        for act, house in ((2, 0), (-1, 0), (0, 2), (0, -1), (10 ** 59, 0), (True, 0), (0, True), (0, False), (0.0, 0),
                           (0, 1.0), ("0", 0), (0, "0"), (None, None), (None, 0), (0, None)):
            self.assertIsNone(run.there(act, house))
        for thing in STRANGE + STRANGE_TUPLES:
            self.assertIsNone(run.there(thing, 0))
            self.assertIsNone(run.there(0, thing))
            self.assertIsNone(run.there(thing, thing))


class LogTest(RunCase):
    def test_in_the_order_of_the_comings(self):
        run = Run(THREE, [("scan", "s"), ("copy", 0)])
        self.assertEqual(run.log(), [])
        for act in range(2):
            do_all(run, works(act, 0, 1, 2))
        self.assertEqual(run.log(), [])
        order = [(1, 2, 0), (1, 1, 0), (1, 0, 2), (1, 1, 2), (1, 0, 1), (1, 2, 1)]
        many = {0: 3, 1: 3, 2: 0}
        for number, coming in enumerate(order):
            run.do(("come",) + coming)
            self.assertEqual(run.log(), [done + (many[done[1]],) for done in order[:number + 1]])

    def test_as_sent_but_for_empty_ones(self):
        for plan in (COPY, GROUP, [("scan", "s"), ("bring", 0, 2)], [("scan", "s"), ("deal", 0, "b"), ("copy", 1)]):
            run = Run(THREE, plan)
            do_to_the_end(run)
            self.assertEqual(sorted(entry for entry in run.log() if entry[3] > 0), sent(THREE, plan))

    def test_kept_behind_falls(self):
        run = Run(TWO, COPY)
        do_to_the_end(run)
        run.fall(1)
        self.assertEqual(run.log(), [(1, 0, 1, 3), (1, 1, 0, 3)])
        do_to_the_end(run)
        self.assertEqual(run.log(), [(1, 0, 1, 3), (1, 1, 0, 3), (1, 0, 1, 3)])


class AnswerTest(RunCase):
    def test_ahead_of_the_end(self):
        run = Run(TWO, COPY)
        while not run.ended():
            self.refuses(NotEnded, run.answer)
            run.do(run.ready()[-1])
        self.assertEqual(run.answer(), sorted(ROWS))
        run.fall(1)
        self.refuses(NotEnded, run.answer)

    def test_acts_that_nobody_goes_by_are_done_too(self):
        run = Run(TWO, [("scan", "k"), ("cut", 0, (), 1), ("scan", "s")])
        do_all(run, works(2, 0, 1))
        self.refuses(NotEnded, run.answer)
        do_all(run, works(0, 0, 1) + works(1, 0, 1))
        self.assertEqual(run.answer(), sorted(ROWS))

    def test_first_in_its_order(self):
        plan = [("scan", "s"), ("cut", 0, (("b", "down"), ("a", "down")), 3), ("copy", 1), ("merge", 2)]
        run = Run(THREE, plan)
        do_to_the_end(run)
        self.assertEqual(run.answer(), [(5, "r"), (4, "q"), (2, "q")])
        self.assertEqual(run.answer(), told(THREE, plan))


class RefusedTest(RunCase):
    def test_as_told(self):
        for act, error in FAULTS:
            with self.assertRaises(ShardError) as taken:
                Run(PARTS_TOWN, AHEAD + [act])
            self.assertIs(taken.exception.__class__, error)
            self.assertEqual(taken.exception.act, len(AHEAD))

    def test_a_last_act_that_is_half(self):
        for plan in ([("scan", "k"), ("cut", 0, (), 1)], GROUP[:2], GROUP[:3]):
            with self.assertRaises(Unsound) as taken:
                Run(TWO, plan)
            self.assertEqual(taken.exception.act, len(plan) - 1)

    def test_no_plan(self):
        for thing in STRANGE + STRANGE_TUPLES + [tuple(COPY), [], [("scan", "c")] * 61]:
            self.refuses(NoPlan, Run, TWO, thing)
            self.refuses(NoPlan, Run, TWO, [thing])


class OwnListsTest(RunCase):
    def test_the_plan_is_changed_later(self):
        plan = list(GROUP)
        run = Run(THREE, plan)
        before = self.state(run)
        plan[1] = ("where", 0, (("a", "=", ("value", 77)),))
        self.assertEqual(self.state(run), before)
        plan.clear()
        self.assertEqual(self.state(run), before)
        do_to_the_end(run)
        plan.extend([("scan", "none")] * 9)
        self.assertEqual(run.answer(), [("p", 3), ("q", 2), ("r", 1)])

    def test_what_was_handed_to_the_town_is_changed_later(self):
        tables = {"k": (HEAD, ("keys", "a"), list(ROWS))}
        town = Town(2, tables)
        run = Run(town, COPY)
        tables["k"][2].clear()
        tables.clear()
        town.tables()["k"].clear()
        town.heads().clear()
        do_to_the_end(run)
        self.assertEqual(run.answer(), sorted(ROWS))

    def test_what_was_told_is_changed(self):
        for deeds in range(19):
            run = Run(THREE, GROUP)
            for _ in range(deeds):
                run.do(run.ready()[-1])
            before = self.state(run, len(GROUP), 3)
            kept = repr(before)
            for told_list in [before[0], before[3]] + before[4]:
                if told_list is not None:
                    told_list.clear()
                    told_list.append("else")
            self.assertEqual(repr(self.state(run, len(GROUP), 3)), kept)
            do_to_the_end(run)
            run.answer().clear()
            self.assertEqual(run.answer(), [("p", 3), ("q", 2), ("r", 1)])

    def test_what_was_told_stays(self):
        run = Run(TWO, COPY)
        ready, log = run.ready(), run.log()
        do_all(run, works(0, 0, 1))
        there = run.there(0, 0)
        kept = list(there)
        do_to_the_end(run)
        run.fall(0)
        self.assertEqual((ready, log, there), (works(0, 0, 1), [], kept))

    def test_two_runs_of_one_plan(self):
        run, other = Run(TWO, COPY), Run(TWO, COPY)
        before = self.state(other)
        do_to_the_end(run)
        self.assertEqual(self.state(other), before)


if __name__ == "__main__":
    unittest.main()
