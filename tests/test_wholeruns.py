"""Point [20]: runs of whole groups."""

import random
import unittest

from signskept.books import Book, is_kept
from signskept.errors import BadGroup, BadNumber, BadTurns, NoFunction
from signskept.functions import Function, Group
from signskept.operations import Operation
from signskept.wholeruns import Run
from tests.groups import group_of, random_group, random_promises, run_of
from tests.helpers import Agreeable, Angry, Case, odd_values

LOAD, SHR = ("do", "a", "load"), ("do", None, "shr", "a")


def told_runs(seed, count, **named):
    """Groups with turns and a number of events, as tuples of all that a test needs of them."""
    chance = random.Random(seed)
    for _ in range(count):
        told = random_group(chance, **named)
        turns = [chance.randint(0, 1) for _ in range(chance.choice([0, 1, 3, 10, 60]))]
        yield chance, told, group_of(told), turns, chance.choice([1, 2, 5, 20, 60, 200])


def group(**starts):
    """f loads, calls g with a and b, and uses the answer; g goes round as long as the turns say so."""
    f = Function("p", {"p": ((LOAD, ("do", "a", "g", "b", "a"), SHR), ("q",)), "q": ((), ())}, parameters=("b",))
    g = Function("g", {"g": ((("do", None, "equ", "x", "y"), ("widen", "z", "y")), ("g", "h")), "h": ((), ())},
                 parameters=("x", "y"), answer="y")
    return Group("f", {"f": f, "g": g}, starts=starts)


class Runs(Case):
    def test_beside_a_reckoning_by_processes(self):
        kinds = set()
        for chance, told, one, turns, most in told_runs(200, 700, many=4):
            run = Run(one, chance.choice([list, tuple])(turns), most=most)
            steps, fails, ended = run_of(told, turns, most)
            self.assertEqual([run.steps, run.fails(), run.ended], [steps, fails, ended])
            self.assertEqual(len(run), len(steps))
            kinds.add((ended, len(fails) > 0, max([step[2] for step in steps], default=0) > 1))
        self.assertEqual([{kind[at] for kind in kinds} for at in range(3)], [{True, False}] * 3)

    def test_beside_a_reckoning_by_processes_without_limits(self):
        for chance, told, one, turns, most in told_runs(201, 100, many=2, many_blocks=3, most_rows=5):
            self.assertEqual(Run(one, [1, 0] * 30).steps, run_of(told, [1, 0] * 30, 60)[0])

    def test_by_hand(self):
        run = Run(group=group(b="s"), turns=[0, 1], most=60)
        self.assertEqual(run.steps, [
            ("f", ("p", 0), 0, ("", "s")), ("f", ("p", 1), 0, ("", "s")),
            ("g", ("g", 0), 1, ("s", "")), ("g", ("g", 1), 1, ("s", "")), ("g", ("g", 0), 1, ("s", "z")), ("g", ("g", 1), 1, ("s", "z")),
            ("f", ("p", 2), 0, ("z", "s"))])
        self.assertEqual([run.fails(), run.ended, len(run)], [[2, 4], True, 7])
        self.assertEqual([group().variables_in("f"), group().variables_in("g")], [("a", "b"), ("x", "y")])

    def test_no_turns_left(self):
        for turns, many in [([], 4), ([0], 6), ([0, 0], 8), ([0] * 60, 200)]:
            run = Run(group(), turns, most=200)
            self.assertEqual([len(run), run.ended], [min(many, 2 + 2 * (len(turns) + 1)), False])
        # More turns than are taken.
        run = Run(group(), [1] * 60)
        self.assertEqual([len(run), run.ended], [5, True])

    def test_a_block_with_one_go_takes_no_turn(self):
        one = Function("p", {"p": ((), ("q",)), "q": ((), ("p", "r")), "r": ((LOAD,), ())})
        self.assertEqual([len(Run(Group("f", {"f": one}), turns)) for turns in ([], [0], [1], [0, 1], [0, 0])], [0, 0, 1, 1, 0])

    def test_each_number_of_events(self):
        # Rows and goes: load, call, two rows of g, its go to h, the row behind the call, the go to q.
        lengths = [len(Run(group(), [1], most=most)) for most in range(1, 10)]
        self.assertEqual(lengths, [1, 2, 3, 4, 4, 5, 5, 5, 5])
        self.assertEqual([Run(group(), [1], most=most).ended for most in range(1, 10)], [False] * 6 + [True] * 3)

    def test_what_is_no_event_is_done_behind_the_last_one(self):
        inner = Function("p", {"p": ((("do", "a", "loadz"),), ())}, answer="a")
        middle = Function("p", {"p": ((("do", "b", "inner"),), ())}, answer="b")
        outer = Function("p", {"p": ((("do", "c", "middle"),), ())})
        one = Group("outer", {"outer": outer, "middle": middle, "inner": inner})
        for most, many, ended in [(1, 1, False), (2, 2, False), (3, 3, True), (4, 3, True)]:
            run = Run(one, [], most=most)
            self.assertEqual([len(run), run.ended], [many, ended])
        # The last event is a go, or a call of a function that has nothing.
        one = Group("f", {"f": Function("p", {"p": ((), ("q",)), "q": ((), ())})})
        self.assertIs(Run(one, [], most=1).ended, True)
        one = Group("f", {"f": Function("p", {"p": ((("do", None, "g"),), ())}), "g": Function("p", {"p": ((), ())})})
        run = Run(one, (), most=1)
        self.assertEqual([run.steps, run.ended], [[("f", ("p", 0), 0, ())], True])
        self.assertIs(Run(Group("f", {"f": Function("p", {"p": ((), ())})}), [], most=1).ended, True)

    def test_the_answer_at_once_behind_the_last_event(self):
        # What came back is seen by the next row only, and that is an event of its own.
        inner = Function("p", {"p": ((("do", "a", "one"),), ())}, answer="a")
        one = Group("f", {"f": Function("p", {"p": ((("do", "x", "inner"), ("do", None, "shr", "x")), ())}), "inner": inner})
        self.assertEqual([step[3] for step in Run(one, []).steps], [("",), ("",), ("zs",)])
        self.assertEqual([Run(one, [], most=most).ended for most in (1, 2, 3)], [False, False, True])

    def test_parameters_and_other_variables(self):
        # Each call begins anew; the same operand fills two parameters; a lost answer changes nothing.
        g = Function("p", {"p": ((("do", "c", "loadz"), ("move", "a", "c")), ())}, parameters=("a", "b"), answer="a")
        f = Function("p", {"p": ((("do", "x", "loads"), ("do", None, "g", "x", "x"), ("do", "x", "g", "y", "x")), ())}, parameters=("y",))
        run = Run(Group("f", {"f": f, "g": g}, starts={"y": "zs"}), [])
        self.assertEqual(run.steps, [
            ("f", ("p", 0), 0, ("", "zs")), ("f", ("p", 1), 0, ("s", "zs")),
            ("g", ("p", 0), 1, ("s", "s", "")), ("g", ("p", 1), 1, ("s", "s", "z")), ("f", ("p", 2), 0, ("s", "zs")),
            ("g", ("p", 0), 1, ("zs", "s", "")), ("g", ("p", 1), 1, ("zs", "s", "z"))])
        self.assertIs(run.ended, True)

    def test_the_answer_takes_the_place_of_an_operand(self):
        g = Function("p", {"p": ((), ())}, parameters=("a",), answer="a")
        f = Function("p", {"p": ((("do", "x", "g", "y"), ("do", "y", "g", "y"), ("do", None, "udiv", "x", "y")), ())}, parameters=("y",))
        run = Run(Group("f", {"f": f, "g": g}, starts={"y": "z"}), [])
        self.assertEqual([run.steps[-1], run.fails()], [("f", ("p", 2), 0, ("z", "z")), []])

    def test_rings_of_calls(self):
        # One that comes back by a turn, and one that never does.
        f = Function("p", {"p": ((), ("q", "r")), "q": ((("do", "a", "g", "a"),), ("r",)), "r": ((SHR,), ())}, parameters=("a",), answer="a")
        g = Function("p", {"p": ((("widen", "z", "b"), ("do", "b", "f", "b")), ())}, parameters=("b",), answer="b")
        one = Group("f", {"f": f, "g": g}, starts={"a": "s"})
        run = Run(one, [0, 0, 1])
        self.assertEqual([step[2] for step in run.steps], [0, 1, 1, 2, 3, 3, 4, 2, 0])
        self.assertEqual([run.fails(), run.ended], [[], True])
        self.assertEqual(Run(one, [1]).fails(), [0])
        ring = Group("f", {"f": Function("p", {"p": ((("do", "a", "f"),), ())}, answer="a")})
        for most in (1, 60, 200):
            run = Run(ring, [], most=most)
            self.assertEqual([len(run), run.ended, run.steps[-1]], [most, False, ("f", ("p", 0), most - 1, ("",))])
        still = Group("f", {"f": Function("p", {"p": ((), ("p",))})})
        self.assertEqual([len(Run(still, [], most=200)), Run(still, []).ended], [0, False])

    def test_fails_are_those_of_operations_alone(self):
        # Moves, widenings and calls have no needs; one of several needs is enough; own words have needs, too.
        table = {"pick": Operation(2, (("z", ""), ("", "s")))}
        rows = (("move", "a", "b"), ("widen", "z", "c"), ("do", "a", "f", "b"), ("do", None, "pick", "b", "d"), ("do", None, "pick", "c", "b"),
                ("do", "d", "loads"), ("do", None, "pick", "b", "d"), ("do", None, "load"))
        one = Function("p", {"p": (rows, ())}, table=table)
        run = Run(Group("g", {"g": one, "f": Function("p", {"p": ((SHR,), ())}, parameters=("a",), answer="a")}), [])
        self.assertEqual([run.fails(), len(run)], [[3, 4], 9])

    def test_new_each_time(self):
        run = Run(group(), [0, 1])
        run.steps.clear()
        run.fails().clear()
        self.assertEqual([len(run.steps), run.fails()], [7, [2, 4]])
        for name in ("steps", "ended"):
            self.assertRaises(AttributeError, setattr, run, name, [])
        turns = [0, 1]
        run = Run(group(), turns)
        turns.clear()
        self.assertEqual([len(run), len(Run(group(), (0, 1)))], [7, 7])


class KeptBooks(Case):
    def test_a_kept_book_has_no_fails_in_any_run(self):
        many, calls = 0, 0
        for chance, told, one, turns, most in told_runs(202, 500, many_names=2):
            for _ in range(3):
                promises = random_promises(chance, told, ("", "", "z", "s", "zs"), True)
                book = Book(one, promises)
                if not is_kept(one, book):
                    continue
                for _ in range(3):
                    turns = [chance.randint(0, 1) for _ in range(chance.randint(0, 30))]
                    run = Run(one, turns, most=100)
                    self.assertEqual(run.fails(), [])
                    calls += self.check_promises(told, one, book, run)
                many += 1
        self.assertGreater(many, 150)
        self.assertGreater(calls, 50)

    def check_promises(self, told, one, book, run):
        """At each call what is promised of the operands is sure, and behind it what is promised of the answer."""
        found = 0
        open_calls = []
        for index, (word, (label, at), depth, dresses) in enumerate(run.steps):
            have = dict(zip(one.variables_in(word), dresses))
            while open_calls and open_calls[-1][0] == depth:
                _, row, callee = open_calls.pop()
                if row[1] is not None:
                    self.assertLessEqual(set(book[callee][1]), set(have[row[1]]))
                    found += bool(book[callee][1])
            row = told["functions"][word][1][label][0][at]
            if row[0] == "do" and row[2] in one.words:
                for name, want in zip(row[3:], book[row[2]][0]):
                    self.assertLessEqual(set(want), set(have[name]))
                    found += bool(want)
                open_calls = [call for call in open_calls if call[0] < depth] + [(depth, row, row[2])]
        return found


class Refused(Case):
    def test_turns(self):
        for bad in [[2], [-1], [0, True], [False], (0, None), [0.0], ["0"], "01", {0: 1}, {0}, iter([0]), [0] * 61, (1,) * 61, [[0]],
                    [Agreeable()], [Angry()], 0, 1, None] + odd_values():
            if repr(bad) != "[]":
                self.refused(BadTurns, bad, Run, group(), bad)
                self.refused(BadTurns, bad, Run, group(), bad, most=0)
        self.assertEqual(len(Run(group(), [1] + [0] * 59)), 5)

    def test_numbers(self):
        for bad in [0, 201, -1, 10 ** 30, "3", 1.0] + odd_values():
            self.refused(BadNumber, bad, Run, group(), [], most=bad)
        self.assertEqual([len(Run(group(), [], most=most)) for most in (1, 200)], [1, 4])
        self.assertRaises(TypeError, Run, group(), [], 60)

    def test_groups(self):
        for bad in ["f", {}, Group, Run, Book(group())] + odd_values():
            self.refused(BadGroup, bad, Run, bad, 1)
            self.refused(BadGroup, bad, Run, bad, None, most=0)

    def test_no_such_function(self):
        for bad in ["", "p", "load", 0] + odd_values():
            self.refused(NoFunction, bad, group().variables_in, bad)


if __name__ == "__main__":
    unittest.main()
