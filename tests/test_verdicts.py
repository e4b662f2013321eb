"""Point [11]: verdicts."""

import random
import unittest

from signskept.errors import BadProgram, NoPlace
from signskept.operations import Operation
from signskept.programs import Program
from signskept.roads import Walk, is_road
from signskept.tables import Table, Verdict, is_closed, is_right, verdict, verdicts, worst
from tests.helpers import Case, odd_values
from tests.plain import all_roads, explored, random_program, walked

# On one road x is sure by z alone and y by both, on the other one the marks are the other way round.
TWO_ROADS = {"p": ((), ("q", "r")),
             "q": ((("do", "x", "loadz"), ("do", "y", "one")), ("t",)),
             "r": ((("do", "x", "one"), ("do", "y", "loads")), ("t",)),
             "t": ((("do", None, "ult", "x", "y"),), ())}


def told(found):
    """All that a Verdict tells."""
    return [found.place, found.road, found.many, found.entries, bool(found)]


class Verdicts(Case):
    def check(self, program, blocks, starts, found, fewest):
        """What a Verdict tells, beside a walk along its road or the table."""
        self.assertIsInstance(found, Verdict)
        place = found.place
        self.assertIs(bool(found), place in fewest)
        if place not in fewest:
            self.assertEqual([found.road, found.many], [None, None])
            self.assertEqual(found.entries, Table(program).entries)
            self.assertIs(is_closed(program, found.entries), True)
            return
        self.assertEqual([found.many, found.entries], [fewest[place], []])
        self.assertIs(is_road(program, found.road), True)
        self.assertEqual(found.road[-1], place[0])
        steps, _, fails = walked(blocks, starts, found.road)
        index = len(steps) - len(blocks[place[0]][0]) + place[1]
        self.assertEqual(steps[index][0], place)
        self.assertIn(index, fails)
        self.assertEqual(index, found.many)
        self.assertIn(index, Walk(program, found.road).fails())

    def test_beside_walks_and_another_search(self):
        chance = random.Random(14)
        kinds = set()
        for _ in range(120):
            first, blocks, starts = random_program(chance)
            program = Program(first, blocks, starts=starts)
            _, fewest = explored(first, blocks, starts)
            found = list(verdicts(program))
            self.assertEqual([one.place for one in found], program.places())
            for one in found:
                self.check(program, blocks, starts, one, fewest)
                self.check(program, blocks, starts, verdict(program, one.place), fewest)
                self.assertEqual(told(verdict(program, one.place)), told(one))
            self.assertIs(is_right(program), not fewest)
            kinds.add(not fewest)
            least = worst(program)
            if not fewest:
                self.assertIsNone(least)
            else:
                due = min((many, place) for place, many in fewest.items())
                self.assertEqual((least.many, least.place), due)
                self.check(program, blocks, starts, least, fewest)
        self.assertEqual(kinds, {True, False})

    def test_beside_all_roads_of_some_length(self):
        chance = random.Random(15)
        for _ in range(60):
            first, blocks, starts = random_program(chance, many_blocks=3, many_names=2)
            program = Program(first, blocks, starts=starts)
            fewest = {}
            for road in all_roads(first, blocks, 8):
                steps, _, fails = walked(blocks, starts, road)
                for index in fails:
                    place = steps[index][0]
                    fewest[place] = min(index, fewest.get(place, index))
            for one in verdicts(program):
                if one.place in fewest:
                    self.assertTrue(one)
                    self.assertLessEqual(one.many, fewest[one.place])

    def test_two_roads(self):
        # On each road alone the two can be compared, though neither mark is sure of both on both roads.
        program = Program("p", TWO_ROADS)
        self.assertIs(is_right(program), True)
        found = verdict(program, ("t", 0))
        self.assertEqual([bool(found), found.road, found.many], [False, None, None])
        self.assertEqual([entry for entry in found.entries if entry[0] == "t"],
                         [("t", ("z", "zs")), ("t", ("zs", "s"))])
        self.assertEqual(found.entries, Table(program).entries)
        # With the marks that are sure of each register on both roads the row would fail.
        self.assertIs(is_right(Program("t", TWO_ROADS, starts={"x": "z", "y": "s"})), False)
        for place, row in ((("q", 1), ("do", "y", "loads")), (("r", 0), ("do", "x", "loadz"))):
            other = program.with_row(place, row)
            told_one = verdict(other, ("t", 0))
            self.assertEqual([told_one.road, told_one.many], [("p", place[0], "t"), 2])

    def test_the_fewest_rows_ahead(self):
        load, fail = ("do", "a", "load"), ("do", None, "shr", "a")
        blocks = {"p": ((), ("q", "r")), "q": ((load, load), ("t",)), "r": ((), ("s",)), "s": ((load,), ("t",)),
                  "t": ((load, fail), ("t",))}
        program = Program("p", blocks, starts={"a": "z"})
        found = verdict(program, ("t", 1))
        self.assertEqual([found.road, found.many], [("p", "r", "s", "t"), 2])
        # A row that only fails when it is come to again, around the ring.
        again = Program("p", {"p": ((fail, load), ("p",))}, starts={"a": "z"})
        self.assertEqual(told(verdict(again, ("p", 0))), [("p", 0), ("p", "p"), 2, [], True])
        self.assertEqual(told(worst(again)), told(verdict(again, ("p", 0))))

    def test_the_least_place_of_those_alike(self):
        fail = ("do", None, "shr", "a")
        program = Program("p", {"p": ((), ("r", "q")), "r": ((fail,), ()), "q": ((fail,), ())})
        self.assertEqual(told(worst(program)), [("q", 0), ("p", "q"), 0, [], True])
        later = Program("p", {"p": ((), ("r", "q")), "r": ((fail,), ()), "q": ((("move", "b", "a"), fail), ())})
        self.assertEqual(worst(later).place, ("r", 0))

    def test_a_row_that_is_never_come_to(self):
        program = Program("p", {"p": ((), ()), "q": ((("do", None, "shr", "a"),), ())})
        self.assertEqual(told(verdict(program, ("q", 0))), [("q", 0), None, None, [("p", ("",))], False])
        self.assertIs(is_right(program), True)
        self.assertIsNone(worst(program))

    def test_moves_and_widenings_cannot_fail(self):
        rows = (("move", "a", "b"), ("widen", "s", "a"), ("do", "a", "store", "a", "b"))
        program = Program("p", {"p": (rows, ())})
        self.assertEqual([bool(one) for one in verdicts(program)], [False] * 3)

    def test_operations_of_a_table(self):
        table = {"both": Operation(1, (("zs",),)), "some": Operation(2, (("z", ""), ("", "s")))}
        rows = (("do", None, "both", "a"), ("do", None, "some", "b", "a"), ("do", None, "some", "a", "b"),
                ("widen", "z", "b"), ("do", None, "both", "b"), ("do", None, "some", "b", "b"))
        program = Program("p", {"p": (rows, ())}, starts={"a": "zs"}, table=table)
        self.assertEqual([one.many for one in verdicts(program)], [None, None, None, None, 4, None])
        self.assertEqual(worst(program=program).place, ("p", 4))

    def test_no_rows(self):
        program = Program("p", {"p": ((), ())})
        self.assertEqual([list(verdicts(program)), is_right(program=program), worst(program)], [[], True, None])

    def test_lists_are_new_each_time(self):
        program = Program("p", {"p": ((("move", "a", "a"), ("move", "a", "a")), ())})
        one, other = list(verdicts(program))
        one.entries.clear()
        self.assertEqual([one.entries, other.entries], [[("p", ("",))]] * 2)
        for name in ("place", "road", "many", "entries"):
            self.assertRaises(AttributeError, setattr, one, name, None)

    def test_a_verdict_is_equal_to_nothing_of_another_kind(self):
        program = Program("p", {"p": ((("move", "a", "a"),), ())})
        for value in [False, None, ("p", 0), [], ("p", None, None, []), Table(program)]:
            self.assertFalse(verdict(program, ("p", 0)) == value)
            self.assertTrue(Table(program) != value)

    def test_what_is_refused(self):
        program = Program("p", TWO_ROADS)
        for bad in ["p", TWO_ROADS, Program] + odd_values():
            self.refused(BadProgram, bad, verdict, bad, ("p", 0))
            self.refused(BadProgram, bad, verdict, bad, None)
            self.refused(BadProgram, bad, is_right, bad)
            self.refused(BadProgram, bad, worst, bad)
            self.refused_while(BadProgram, bad, verdicts, bad)
        for bad in [("p", 0), ("t", 1), ("t", -1), ("t", True), ("t", False), ["t", 0], "t", ("x", 0)] + odd_values():
            self.refused(NoPlace, bad, verdict, program, bad)
        self.assertFalse(verdict(program=program, place=("t", 0)))


if __name__ == "__main__":
    unittest.main()
