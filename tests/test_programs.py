"""Point [8]: programs."""

import random
import unittest

from signskept.dresses import Dress
from signskept.errors import (BadBlocks, BadRow, BadStarts, BadTable, NoBlock, NoOperation, NoPlace)
from signskept.known import known, known_words
from signskept.operations import Operation
from signskept.programs import Program
from signskept.wides import Wide
from tests.helpers import Agreeable, Angry, Case, odd_values
from tests.plain import TEXTS, names_of, random_program

THREE = Operation(3, z=(("z", "z", "z"),))
TABLE = {"mix": THREE, "zero": Operation(0, z=((),))}
ROWS = (("do", "a", "load"), ("do", None, "store", "a", "b"), ("move", "b", "a"), ("widen", "z", "b"),
        ("do", "c", "mix", "a", "a", "b"), ("do", "abcdefgh", "zero"), ("do", None, "load"))
BLOCKS = {"p": (ROWS, ("q", "p")), "q": ((), ()), "r": ((("widen", "s", "d"),), ("q",))}
NO_WORDS = ["", "abcdefghi", "A", "a1", "a_b", "a b", "-", 0, ("a",), Dress("z")] + odd_values()
NO_ROWS = [(), ("do",), ("do", "a"), ("do", "a", "lode"), ("do", "a", "load", "b"), ("do", "a", "add", "b"),
           ("do", "a", "add", "b", "c", "d"), ("do", "a", "neg"), ("move", "a"), ("move", None, "a"),
           ("move", "a", None), ("move", "a", "b", "c"), ("widen", "z"), ("widen", "zs", "a"),
           ("widen", "", "a"), ("widen", "a", "z", "b"), ("widen", "z", "a", "b"), ("widen", "a", "z"), ("widen", None, "a"),
           ("widen", "z", None), ["move", "a", "b"], "move", ("moves", "a", "b"), (None, "a", "b"),
           ("do", "a", None), ("do", "a", ["neg"], "b"), ("do", "a", "neg", None), ("do", ("a",), "load"),
           (Angry(), "a", "b"), ("widen", Agreeable(), "a"), ("widen", Angry(), "a"),
           ("do", "a", Agreeable()), (Agreeable(), "a", "b"), ("do", "a", "move", "b")]


def chain(many, rows=()):
    """Blocks of words of one letter, each going to the next."""
    words = "abcdefghijklmnopqrstuvwxyz"[:many]
    return {word: (rows, tuple(words[at + 1:at + 2])) for at, word in enumerate(words)}


def moves(many):
    """Rows with so many variables, each of which stands in one row."""
    return tuple(("do", "v" + "abcdefghijklmnop"[at], "load") for at in range(many))


def whole():
    return Program("p", BLOCKS, starts={"a": "sz", "e": "z"}, table=TABLE)


class Makings(Case):
    def test_all_kinds_of_rows(self):
        program = whole()
        self.assertEqual(program.first, "p")
        self.assertEqual(program.words, ("p", "q", "r"))
        self.assertEqual(program.variables, ("a", "abcdefgh", "b", "c", "d", "e"))
        self.assertEqual([program.rows("p"), program.goes("p")], [ROWS, ("q", "p")])
        self.assertEqual([program.rows(word="q"), program.goes(word="q")], [(), ()])
        self.assertEqual(program.starts(), {"a": Dress("zs"), "abcdefgh": Dress(), "b": Dress(),
                                            "c": Dress(), "d": Dress(), "e": Dress("z")})
        self.assertEqual(Program(first="p", blocks=BLOCKS, starts={"a": "zs", "e": "z"}, table=TABLE), program)

    def test_each_known_operation(self):
        for word in known_words():
            operands = ("b", "c", "d")[:known(word).arity]
            for answer in ("a", None):
                row = ("do", answer, word) + operands
                program = Program("p", {"p": ((row,), ())})
                self.assertEqual(program["p", 0], row)
                self.assertEqual(program.variables, (("a",) if answer else ()) + operands)

    def test_the_least_program(self):
        program = Program("p", {"p": ((), ())})
        self.assertEqual([program.words, program.variables, program.places()], [("p",), (), []])
        self.assertEqual(program.starts(), {})
        self.assertEqual(Program("p", {"p": ((), ())}, starts={}, table={}), program)

    def test_variables_beside_another_reading(self):
        chance = random.Random(8)
        for _ in range(60):
            first, blocks, starts = random_program(chance)
            program = Program(first, blocks, starts=starts)
            self.assertEqual(program.variables, tuple(names_of(blocks, starts)))
            self.assertEqual(program.words, tuple(sorted(blocks)))
            self.assertEqual({name: dress.marks for name, dress in program.starts().items()},
                             {name: Dress(starts.get(name, "")).marks for name in names_of(blocks, starts)})

    def test_names_alone(self):
        self.assertRaises(TypeError, Program, "p", BLOCKS, {}, TABLE)
        self.assertRaises(TypeError, Program, "p")

    def test_what_was_handed_in_may_be_changed_later(self):
        blocks, starts, table = dict(BLOCKS), {"a": "zs", "e": "z"}, dict(TABLE)
        program = Program("p", blocks, starts=starts, table=table)
        blocks.clear()
        starts["a"] = "zz"
        table.clear()
        self.assertEqual(program, whole())
        self.assertEqual(program.operation("mix"), THREE)
        program.starts().clear()
        program.places().clear()
        program.widenings().clear()
        self.assertEqual(program, whole())
        self.assertEqual(len(program.places()), 8)

    def test_nothing_can_be_set(self):
        for name in ("first", "words", "variables"):
            self.assertRaises(AttributeError, setattr, whole(), name, ())

    def test_equality(self):
        program = whole()
        self.assertEqual(program, whole())
        self.assertFalse(program != whole())
        turned = {word: BLOCKS[word] for word in ("r", "p", "q")}
        self.assertEqual(program, Program("p", turned, starts={"e": "z", "a": "zs", "b": ""}, table=TABLE))
        others = [Program("q", BLOCKS, starts={"a": "zs", "e": "z"}, table=TABLE),
                  Program("p", BLOCKS, starts={"a": "z", "e": "z"}, table=TABLE),
                  Program("p", BLOCKS, starts={"a": "zs"}, table=TABLE),
                  Program("p", BLOCKS, starts={"a": "zs", "e": "z", "f": ""}, table=TABLE),
                  Program("p", BLOCKS, starts={"a": "zs", "e": "z"}, table={**TABLE, "mix": Operation(3)}),
                  Program("p", BLOCKS, starts={"a": "zs", "e": "z"}, table={**TABLE, "more": THREE}),
                  Program("p", {**BLOCKS, "p": (ROWS, ("p", "q"))}, starts={"a": "zs", "e": "z"}, table=TABLE)]
        for other in others:
            self.assertFalse(program == other)
        for value in odd_values():
            self.assertIs(program.__eq__(value), False)


class Tables(Case):
    def test_eight_words_are_the_most(self):
        table = {"w" + letter: Operation(1) for letter in "abcdefgh"}
        rows = tuple(("do", "a", word, "a") for word in table)
        program = Program("p", {"p": (rows, ())}, table=table)
        self.assertEqual(program.operation("wh"), Operation(1))
        more = {**table, "more": Operation(1)}
        self.refused(BadTable, more, Program, "p", {"p": (rows, ())}, table=more)

    def test_words_that_are_none(self):
        for bad in NO_WORDS + known_words():
            try:
                table = {bad: Operation(1)}
            except (TypeError, AssertionError):
                continue
            self.refused(BadTable, table, Program, "p", BLOCKS, table=table)

    def test_no_operations(self):
        for bad in [Operation, "add", (1,), Dress("z")] + odd_values():
            table = {"mix": THREE, "word": bad}
            self.refused(BadTable, table, Program, "p", BLOCKS, table=table)

    def test_values_that_are_no_dict(self):
        for bad in [["mix"], ("mix", THREE), THREE, "mix"] + odd_values():
            # None and an empty dict are right.
            if bad is not None and repr(bad) != "{}":
                self.refused(BadTable, bad, Program, "p", {"p": ((), ())}, table=bad)

    def test_words_of_rows_are_free_for_operations(self):
        table = {word: Operation(0) for word in ("do", "move", "widen", "p", "a", "return")}
        rows = tuple(("do", "a", word) for word in table)
        self.assertEqual(Program("p", {"p": (rows, ())}, table=table).rows("p"), rows)

    def test_operation(self):
        program = whole()
        for word in known_words():
            self.assertEqual(program.operation(word), known(word))
        self.assertEqual([program.operation("mix"), program.operation(word="zero")], [THREE, TABLE["zero"]])
        for bad in ["more", "p", "a"] + NO_WORDS:
            self.refused(NoOperation, bad, program.operation, bad)
        self.refused(NoOperation, "mix", Program("p", {"p": ((), ())}).operation, "mix")


class Blocks(Case):
    def refused_blocks(self, blocks, first="p"):
        self.refused(BadBlocks, blocks, Program, first, blocks, table=TABLE)

    def test_twenty_blocks_are_the_most(self):
        self.assertEqual(len(Program("a", chain(20)).words), 20)
        self.refused_blocks(chain(21), "a")

    def test_sixty_rows_are_the_most(self):
        row = ("do", "a", "load")
        self.assertEqual(len(Program("p", {"p": ((row,) * 60, ())}).places()), 60)
        self.assertEqual(len(Program("a", chain(20, (row,) * 3)).places()), 60)
        self.refused_blocks({"p": ((row,) * 61, ())})
        self.refused_blocks({"p": ((row,) * 60, ()), "q": ((row,), ())})
        self.refused_blocks(chain(16, (row,) * 4), "a")

    def test_twelve_variables_are_the_most(self):
        self.assertEqual(len(Program("p", {"p": (moves(12), ())}).variables), 12)
        self.refused_blocks({"p": (moves(13), ())})
        self.refused_blocks({"p": (moves(12), ()), "q": ((("move", "x", "va"),), ())})
        self.refused_blocks({"p": (moves(12), ()), "q": ((("move", "va", "x"),), ())})
        self.refused_blocks({"p": (moves(12), ()), "q": ((("widen", "z", "x"),), ())})
        self.refused_blocks({"p": (moves(12), ()), "q": ((("do", None, "neg", "x"),), ())})
        # Words of operations, of blocks and of kinds of rows are no variables.
        program = Program("p", {"p": (moves(12) + (("do", None, "neg", "va"), ("widen", "z", "vb")), ())})
        self.assertEqual(len(program.variables), 12)

    def test_each_wrong_row(self):
        for bad in NO_ROWS + odd_values():
            self.refused_blocks({"p": ((bad,), ())})
            self.refused_blocks({"p": ((), ()), "q": ((("do", "a", "load"), bad), ())})
        for bad in NO_WORDS:
            rows = [("move", bad, "a"), ("move", "a", bad), ("widen", "z", bad), ("do", "a", "neg", bad),
                    ("do", None, "mix", "a", bad, "a"), ("do", "a", bad), ("widen", bad, "a")]
            if bad is not None:
                rows.append(("do", bad, "load"))
            for row in rows:
                self.refused_blocks({"p": ((row,), ())})

    def test_operations_of_another_table(self):
        blocks = {"p": ((("do", "c", "mix", "a", "a", "b"),), ())}
        self.refused(BadBlocks, blocks, Program, "p", blocks)
        self.refused(BadBlocks, blocks, Program, "p", blocks, table={"mixed": THREE})
        self.refused(BadBlocks, blocks, Program, "p", blocks, table={"mix": Operation(2)})

    def test_words_of_blocks(self):
        for bad in NO_WORDS:
            try:
                blocks = {"p": ((), ()), bad: ((), ())}
            except (TypeError, AssertionError):
                continue
            self.refused_blocks(blocks)

    def test_goes_that_are_none(self):
        for goes in [("q",), ("p", "p"), ("p", "q", "r"), ["p"], "p", None, ("p", None), (None,), {"p": 1},
                     ("p", ["p"]), (Agreeable(),), (Angry(),), ("p", Angry())]:
            self.refused_blocks({"p": ((), goes)})
        self.refused_blocks({"p": ((), ("p", "q", "r")), "q": ((), ()), "r": ((), ())})
        self.refused_blocks({"p": ((), ("q", "q")), "q": ((), ())})

    def test_blocks_of_another_form(self):
        for bad in [((),), ((), (), ()), [(), ()], ([], ()), ("p", ()), (None, ()), ((), []), None, "ab", ""]:
            self.refused_blocks({"p": bad})
        for bad in odd_values() + [[("p", ((), ()))], "p", {}, (((), ()),)]:
            self.refused(BadBlocks, bad, Program, "p", bad)

    def test_first(self):
        for bad in ["s", "a", "load"] + NO_WORDS:
            self.refused(BadBlocks, bad, Program, bad, BLOCKS, table=TABLE)


class Starts(Case):
    def test_marks_in_any_order(self):
        for text in TEXTS + ("sz",):
            program = Program("p", {"p": ((), ())}, starts={"a": text})
            self.assertEqual(program.starts(), {"a": Dress(text)})
            self.assertEqual(program.variables, ("a",))

    def test_twelve_variables_with_those_of_starts(self):
        blocks = {"p": (moves(11), ())}
        self.assertEqual(len(Program("p", blocks, starts={"x": "z", "va": "s"}).variables), 12)
        more = {"x": "z", "y": ""}
        self.refused(BadStarts, more, Program, "p", blocks, starts=more)
        many = {"v" + letter: "z" for letter in "abcdefghijklm"}
        self.refused(BadStarts, many, Program, "p", {"p": ((), ())}, starts=many)
        many.pop("va")
        self.assertEqual(len(Program("p", {"p": ((), ())}, starts=many).variables), 12)

    def test_starts_that_are_none(self):
        for bad in NO_WORDS:
            try:
                starts = {bad: "z"}
            except (TypeError, AssertionError):
                continue
            self.refused(BadStarts, starts, Program, "p", BLOCKS, starts=starts, table=TABLE)
        for bad in ["zz", "a", "-", 0, Dress("z")] + odd_values():
            starts = {"a": "z", "b": bad}
            self.refused(BadStarts, starts, Program, "p", BLOCKS, starts=starts, table=TABLE)
        for bad in [["a"], ("a", "z"), "a"] + odd_values():
            if bad is not None and repr(bad) != "{}":
                self.refused(BadStarts, bad, Program, "p", BLOCKS, starts=bad, table=TABLE)

    def test_the_order_of_the_exceptions(self):
        table, blocks, starts = {"add": THREE}, {"p": ((), ("q",))}, {"a": "zz"}
        self.refused(BadTable, table, Program, "q", blocks, starts=starts, table=table)
        self.refused(BadBlocks, blocks, Program, "q", blocks, starts=starts, table=TABLE)
        self.refused(BadTable, table, Program, None, BLOCKS, starts=starts, table=table)
        self.refused(BadBlocks, "s", Program, "s", BLOCKS, starts=starts, table=TABLE)
        self.refused(BadStarts, starts, Program, "p", BLOCKS, starts=starts, table=TABLE)
        self.refused(BadTable, table, Program, "p", BLOCKS, starts=starts, table=table)


class Places(Case):
    def test_places(self):
        program = whole()
        due = [("p", at) for at in range(7)] + [("r", 0)]
        self.assertEqual(program.places(), due)
        self.assertEqual(program.widenings(), [("p", 3), ("r", 0)])
        for place in due:
            self.assertEqual(program[place], BLOCKS[place[0]][0][place[1]])
        self.assertEqual(program["p", 2], ("move", "b", "a"))

    def test_ascending_whatever_the_order_of_the_blocks(self):
        turned = {word: BLOCKS[word] for word in ("r", "p", "q")}
        program = Program("p", turned, starts={"e": "z", "a": "zs"}, table=TABLE)
        self.assertEqual([program.words, program.places()], [("p", "q", "r"), whole().places()])
        self.assertEqual(program.widenings(), whole().widenings())

    def test_places_that_are_none(self):
        program = whole()
        for bad in [("p", 7), ("p", -1), ("q", 0), ("s", 0), ("p",), ("p", 0, 0), ["p", 0], "p0", "p", 0,
                    ("p", "0"), ("p", 0.0), ("p", True), ("p", False), (("p", 0),), ("p", 10 ** 30),
                    (Angry(), 0), ("p", Angry()), (Agreeable(), 0), ("p", Agreeable())] + odd_values():
            self.refused(NoPlace, bad, lambda: program[bad])
            self.refused(NoPlace, bad, program.with_row, bad, ("move", "a", "b"))
            self.refused(NoPlace, bad, program.with_row, bad, None)
            if not (isinstance(bad, tuple) and repr(bad) in ("('p', 7)", "('q', 0)")):
                self.refused(NoPlace, bad, program.with_more, bad, ("move", "a", "b"))
                self.refused(NoPlace, bad, program.with_more, bad, None)
        for bad in (("p", 8), ("q", 1), ("r", 2)):
            self.refused(NoPlace, bad, program.with_more, bad, ("move", "a", "b"))
        self.assertEqual(program, whole())

    def test_blocks_that_are_none(self):
        for bad in ["s", "a"] + NO_WORDS:
            self.refused(NoBlock, bad, whole().rows, bad)
            self.refused(NoBlock, bad, whole().goes, bad)

    def test_a_program_is_not_iterated_over(self):
        self.assertRaises(TypeError, list, whole())


class Changes(Case):
    def made(self, rows):
        """The whole program with other rows in the block p, and all its variables."""
        starts = {name: dress.marks for name, dress in whole().starts().items()}
        return Program("p", {**BLOCKS, "p": (rows, ("q", "p"))}, starts=starts, table=TABLE)

    def test_with_row(self):
        row = ("do", "x", "mix", "a", "y", "b")
        for at in range(7):
            program = whole()
            self.assertEqual(program.with_row(("p", at), row), self.made(ROWS[:at] + (row,) + ROWS[at + 1:]))
            self.assertEqual(program.with_row(place=("p", at), row=row)["p", at], row)
            self.assertEqual(program, whole())

    def test_with_more(self):
        row = ("widen", "s", "x")
        for at in range(8):
            self.assertEqual(whole().with_more(("p", at), row), self.made(ROWS[:at] + (row,) + ROWS[at:]))
        self.assertEqual(whole().with_more(place=("q", 0), row=row).rows("q"), (row,))
        self.assertEqual(whole().with_more(("r", 1), row).rows("r"), (("widen", "s", "d"), row))

    def test_without(self):
        for places in ([("p", 1), ("p", 4)], (("p", 4), ("p", 1)), [("p", 0)], [], ()):
            gone = [at for _, at in places]
            due = self.made(tuple(row for at, row in enumerate(ROWS) if at not in gone))
            self.assertEqual(whole().without(places), due)
        emptied = whole().without(places=whole().places())
        self.assertEqual([emptied.rows(word) for word in "pqr"], [(), (), ()])
        self.assertEqual(emptied.goes("p"), ("q", "p"))

    def test_a_variable_that_loses_its_last_row_stays(self):
        program = whole().without([("p", 5), ("r", 0)])
        self.assertEqual(program.variables, whole().variables)
        self.assertEqual(program.starts(), whole().starts())
        other = whole().with_row(("p", 5), ("move", "a", "a"))
        self.assertEqual(other.variables, whole().variables)
        again = other.with_more(("p", 0), ("move", "a", "new"))
        self.assertEqual(again.variables, tuple(sorted(whole().variables + ("new",))))
        self.assertNotEqual(program, Program("p", {**BLOCKS, "p": (ROWS[:5] + ROWS[6:], ("q", "p")),
                                                   "r": ((), ("q",))}, starts={"a": "zs", "e": "z"}, table=TABLE))

    def test_dresses_at_the_beginning_stay(self):
        program = whole().without([("p", 0)]).with_more(("p", 0), ("move", "x", "e"))
        self.assertEqual(program.starts()["a"], Dress("zs"))
        self.assertEqual([program.starts()["e"], program.starts()["x"]], [Dress("z"), Dress()])

    def test_rows_that_are_none(self):
        for bad in NO_ROWS + odd_values():
            self.refused(BadRow, bad, whole().with_row, ("p", 0), bad)
            self.refused(BadRow, bad, whole().with_more, ("p", 0), bad)
            self.refused(BadRow, bad, whole().with_more, ("q", 0), bad)

    def test_rows_with_which_a_rule_is_broken(self):
        row = ("do", "a", "load")
        full = Program("p", {"p": ((row,) * 60, ())})
        self.refused(BadRow, row, full.with_more, ("p", 3), row)
        self.assertEqual(len(full.with_row(("p", 3), ("do", "b", "load")).places()), 60)
        many = Program("p", {"p": (moves(12), ())})
        new = ("do", "x", "load")
        self.refused(BadRow, new, many.with_more, ("p", 0), new)
        self.refused(BadRow, new, many.with_row, ("p", 0), new)
        self.assertEqual(len(many.with_more(("p", 12), ("move", "va", "vb")).places()), 13)
        eleven = Program("p", {"p": (moves(11), ())}, starts={"y": "z"})
        self.refused(BadRow, new, eleven.with_row, ("p", 0), new)
        unknown = ("do", "a", "mixed", "a")
        self.refused(BadRow, unknown, whole().with_row, ("p", 0), unknown)

    def test_places_that_are_none(self):
        twice = [("p", 1), ("p", 1)]
        for bad in [twice, tuple(twice), [("p", 7)], [("p", 0), ("s", 0)], [("p", True)], ("p", 0), "p",
                    {("p", 0): 1}, {("p", 0)}, [Angry()], [("p", 0), None], [["p", 0]], iter([("p", 0)])]:
            self.refused(NoPlace, bad, whole().without, bad)
        for bad in odd_values():
            if repr(bad) != "[]":
                self.refused(NoPlace, bad, whole().without, bad)

    def test_the_place_is_asked_first(self):
        self.refused(NoPlace, place := ("p", 9), whole().with_row, place, None)
        self.refused(NoPlace, place, whole().with_more, place, Wide(1, narrow=3, wide=5))


if __name__ == "__main__":
    unittest.main()
