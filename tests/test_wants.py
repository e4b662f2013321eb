"""Point [14]: what rows want and give by one mark."""

import random
import unittest

from signskept.errors import BadMark, BadProgram, NoPlace, NotSimple
from signskept.known import known, known_words
from signskept.operations import Operation
from signskept.programs import Program
from signskept.wants import gift, unfit, wanted
from tests.helpers import Agreeable, Angry, Case, odd_values
from tests.plain import random_program, random_table, with_table

# For each known operation with the operands x and y, by z and by s: the variables that are wanted, and
# those that make the answer sure; None where it is never sure; no entry where the row is not simple.
DUE = {
    "load": {"z": ("", None), "s": ("", None)}, "loadz": {"z": ("", ""), "s": ("", None)},
    "loads": {"z": ("", None), "s": ("", "")}, "one": {"z": ("", ""), "s": ("", "")},
    "add": {"z": ("", None), "s": ("", None)}, "sub": {"z": ("", None), "s": ("", None)},
    "mul": {"z": ("", None), "s": ("", None)}, "neg": {"z": ("", None), "s": ("", None)},
    "shl": {"z": ("", None), "s": ("", None)}, "and": {"s": ("", "xy")},
    "or": {"z": ("", "xy"), "s": ("", "xy")}, "xor": {"z": ("", "xy"), "s": ("", "xy")},
    "not": {"z": ("", None), "s": ("", "x")}, "shr": {"z": ("x", "x")},
    "sar": {"s": ("x", "x")}, "udiv": {"z": ("xy", "xy")}, "urem": {"z": ("xy", "xy")},
    "sdiv": {"s": ("xy", None)}, "srem": {"s": ("xy", "xy")}, "ult": {"z": ("xy", ""), "s": ("xy", "")},
    "equ": {"z": ("xy", ""), "s": ("xy", "")}, "slt": {"s": ("xy", "")}, "store": {"z": ("", None), "s": ("", None)},
}


def one_row(row, table=None):
    return Program("p", {"p": ((row,), ())}, table=table)


class Known(Case):
    def check(self, row, table, due, mark):
        """What is told of a row: due is None where it is not simple, or a tuple of wanted and gift."""
        program, place = one_row(row, table), ("p", 0)
        if due is None:
            self.assertEqual(unfit(program, mark), [place])
            for call in (wanted, gift):
                self.refused(NotSimple, place, call, program, place, mark)
            return
        self.assertEqual(unfit(program, mark), [])
        self.assertEqual((wanted(program, place, mark), gift(program, place, mark)), due)

    def test_each_known_operation(self):
        for word in known_words():
            for mark in "zs":
                for operands in ("xy", "yx", "xx"):
                    operands = operands[:known(word).arity]
                    named = dict(zip("xy", operands))
                    for answer in ("a", "x", None):
                        row = ("do", answer, word) + tuple(operands)
                        due = None
                        if mark in DUE[word]:
                            wants, parts = [text if text is None else sorted({named[name] for name in text})
                                            for text in DUE[word][mark]]
                            due = (wants, None if answer is None else (answer, parts))
                        self.check(row, None, due, mark)

    def test_moves_and_widenings(self):
        for mark, other in ("zs", "sz"):
            self.check(("move", "a", "b"), None, ([], ("a", ["b"])), mark)
            self.check(("move", "a", "a"), None, ([], ("a", ["a"])), mark)
            self.check(("widen", mark, "a"), None, ([], ("a", [])), mark)
            self.check(("widen", other, "a"), None, None, mark)

    def test_operations_of_a_table(self):
        rows = {"first": Operation(2, (("z", ""), ("", "z")), z=(("", "z"),)),
                "later": Operation(3, (("zs", "", ""), ("s", "z", ""), ("z", "", "z")), z=(("z", "z", ""),), s=(("zs", "", ""),)),
                "never": Operation(1, (("zs",), ("s",))), "many": Operation(1, z=(("z",), ("z",))),
                "mixed": Operation(1, z=(("zs",),)), "free": Operation(2, (("s", ""), ("", ""), ("z", "z")), z=(("", ""),)),
                "none": Operation(0, ((), ()), z=((),), s=((), ()))}
        for word, operands, due_z, due_s in [
                ("first", "xy", (["x"], ("a", ["y"])), None), ("first", "yx", (["y"], ("a", ["x"])), None),
                ("first", "xx", (["x"], ("a", ["x"])), None),
                ("later", "xyw", (["w", "x"], ("a", ["x", "y"])), None), ("later", "yyy", (["y"], ("a", ["y"])), None),
                ("later", "ywx", (["x", "y"], ("a", ["w", "y"])), None),
                ("never", "x", None, (["x"], ("a", None))), ("many", "x", None, ([], ("a", None))),
                ("mixed", "x", None, ([], ("a", None))), ("free", "xy", ([], ("a", [])), (["x"], ("a", None))),
                ("none", "", ([], ("a", [])), None)]:
            row = ("do", "a", word) + tuple(operands)
            self.check(row, rows, due_z, "z")
            self.check(row, rows, due_s, "s")

    def test_a_lost_answer(self):
        # The operation is simple or not, whether its answer is lost or not.
        self.check(("do", None, "and", "x", "y"), None, None, "z")
        self.check(("do", None, "and", "x", "y"), None, ([], None), "s")
        self.check(("do", None, "loadz"), None, ([], None), "z")


class Programs(Case):
    def test_beside_a_second_reading(self):
        chance = random.Random(141)
        for _ in range(120):
            told = random_table(chance, 4)
            first, blocks, starts = random_program(chance, table=with_table(told))
            for word in known_words():
                told[word] = (known(word).arity, known(word).needs, known(word).z, known(word).s)
            table = {word: Operation(parts[0], parts[1], z=parts[2], s=parts[3]) for word, parts in told.items()
                     if word not in known_words()}
            program = Program(first, blocks, starts=starts, table=table)
            for mark, other in ("zs", "sz"):
                due = []
                for place in program.places():
                    row = program[place]
                    if row[0] == "move" or row[0] == "widen" and row[1] == mark:
                        continue
                    needs, gives = (told[row[2]][1], told[row[2]][2 if mark == "z" else 3]) if row[0] == "do" else ((), ())
                    if all(other in "".join(wants) for wants in needs) or len(gives) > 1 or other in "".join(sum(gives, ())):
                        due.append(place)
                        self.refused(NotSimple, place, wanted, program, place, mark)
                        self.refused(NotSimple, place, gift, program, place, mark)
                self.assertEqual(unfit(program=program, mark=mark), due)

    def test_rows_that_no_road_comes_to(self):
        program = Program("p", {"p": ((), ()), "a": ((("widen", "s", "x"), ("widen", "z", "x")), ("p",))})
        self.assertEqual([unfit(program, "z"), unfit(program, "s")], [[("a", 0)], [("a", 1)]])
        self.assertEqual(gift(program=program, place=("a", 1), mark="z"), ("x", []))
        self.assertEqual(wanted(program=program, place=("a", 1), mark="z"), [])

    def test_lists_are_new_each_time(self):
        program = one_row(("do", "a", "udiv", "b", "c"))
        wanted(program, ("p", 0), "z").clear()
        gift(program, ("p", 0), "z")[1].clear()
        self.assertEqual([wanted(program, ("p", 0), "z"), gift(program, ("p", 0), "z")], [["b", "c"], ("a", ["b", "c"])])

    def test_what_is_refused(self):
        program = one_row(("do", "a", "and", "b", "c"))
        for bad in ["p", Program] + odd_values():
            self.refused(BadProgram, bad, unfit, bad, None)
            self.refused(BadProgram, bad, wanted, bad, None, None)
            self.refused(BadProgram, bad, gift, bad, None, None)
        for bad in [("p", 1), ("p", -1), ("q", 0), ("p", False), ["p", 0], (Angry(), 0), ("p", Agreeable())] + odd_values():
            self.refused(NoPlace, bad, wanted, program, bad, None)
            self.refused(NoPlace, bad, gift, program, bad, None)
        for bad in ["", "zs", "a", "-", 0] + odd_values():
            self.refused(BadMark, bad, unfit, program, bad)
            self.refused(BadMark, bad, wanted, program, ("p", 0), bad)
            self.refused(BadMark, bad, gift, program, ("p", 0), bad)


if __name__ == "__main__":
    unittest.main()
