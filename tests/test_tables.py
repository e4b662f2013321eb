"""Point [10]: tables of entries."""

import random
import unittest

from signskept.errors import BadProgram, NoEntry, TooLarge
from signskept.operations import Operation
from signskept.programs import Program
from signskept.roads import Walk, is_road, roads
from signskept.tables import Table, is_closed, is_right, verdict, verdicts, worst
from tests.helpers import Agreeable, Angry, Case, odd_values
from tests.plain import all_roads, explored, random_program, row_of, walked

SHIFTED = ["v" + letter for letter in "abcdefghijkl"]
CLEARED = [(10,), (9,), (5, 6, 7, 8), (3, 4), (2,), (0, 1)]
SIDE = ["d", "e", "f", "g", "i", "j"]


def shifting(many, straight):
    """A ring that shifts z and s through so many variables, with some more blocks on the way.

    Nearly all rows of dresses of these variables come up in it.
    """
    names = SHIFTED[:many]
    moves = tuple(("move", names[at], names[at - 1]) for at in range(many - 1, 0, -1))
    line = ["m" + letter for letter in "abcdefghijkl"[:straight]]
    blocks = {"h": (moves, tuple(line[:1]) or ("a", "b")),
              "a": ((("do", names[0], "loadz"),), ("h",)), "b": ((("do", names[0], "loads"),), ("h",))}
    for at, word in enumerate(line):
        blocks[word] = ((), (line[at + 1],) if at + 1 < straight else ("a", "b"))
    return blocks


def largest(more=0):
    """Blocks with just 20000 entries and some more: off the ring, dresses are lost step by step."""
    blocks = shifting(11, 4)
    blocks["ma"] = ((), ("mb", "c"))
    line = ["c"] + SIDE + ["x" + letter for letter in "abc"[:more]]
    for at, word in enumerate(line):
        gone = CLEARED[at] if at < len(CLEARED) else ()
        blocks[word] = (tuple(("do", SHIFTED[index], "load") for index in gone), tuple(line[at + 1:at + 2]))
    return blocks


def programs(seed, many, **named):
    chance = random.Random(seed)
    for _ in range(many):
        first, blocks, starts = random_program(chance, **named)
        yield Program(first, blocks, starts=starts), first, blocks, starts


class Tables(Case):
    def test_beside_all_roads_of_some_length(self):
        for program, first, blocks, starts in programs(10, 80, many_names=2, many_blocks=3):
            found = set()
            for road in all_roads(first, blocks, 9):
                _, behind, _ = walked(blocks, starts, road[:-1])
                found.add((road[-1], behind))
            table = Table(program)
            # Whatever stands on a road stands in the table, and the table is no larger than is due.
            self.assertLessEqual(found, set(table.entries))
            self.assertEqual(set(table.entries), set(explored(first, blocks, starts)[0]))

    def test_beside_another_search(self):
        for program, first, blocks, starts in programs(11, 150, many_names=4):
            best, _ = explored(first, blocks, starts)
            table = Table(program=program)
            self.assertEqual(table.entries, sorted(best))
            self.assertEqual(len(table), len(best))

    def test_in_and_roads(self):
        for program, first, blocks, starts in programs(12, 100):
            best, _ = explored(first, blocks, starts)
            table = Table(program)
            for entry, many in best.items():
                self.assertIn(entry, table)
                road = table.road_to(entry)
                self.assertIs(is_road(program, road), True)
                self.assertEqual(road[-1], entry[0])
                steps, behind, _ = walked(blocks, starts, road[:-1])
                self.assertEqual([behind, len(steps)], [entry[1], many])
            self.assertEqual(table.road_to(entry=(first, row_of_begin(program))), (first,))

    def test_the_fewest_rows_and_not_the_fewest_blocks(self):
        row = ("do", "b", "load")
        blocks = {"p": ((), ("q", "r")), "q": ((row,) * 3, ("t",)), "r": ((), ("s",)), "s": ((row,), ("t",)),
                  "t": ((), ())}
        self.assertEqual(Table(Program("p", blocks)).road_to(("t", ("",))), ("p", "r", "s", "t"))

    def test_rows_of_the_last_block_are_not_ahead(self):
        row = ("do", "b", "load")
        blocks = {"p": ((), ("q", "r")), "q": ((), ("t",)), "r": ((row,), ("t",)), "t": ((row,) * 9, ())}
        self.assertEqual(Table(Program("p", blocks)).road_to(("t", ("",))), ("p", "q", "t"))

    def test_entries_by_hand(self):
        blocks = {"p": ((("widen", "z", "a"),), ("q", "p")), "q": ((("do", "b", "load"),), ("p",)), "r": ((), ())}
        table = Table(Program("p", blocks, starts={"a": "s", "b": "sz"}))
        due = [("p", ("s", "zs")), ("p", ("z", "")), ("p", ("z", "zs")), ("q", ("z", "")), ("q", ("z", "zs"))]
        self.assertEqual([table.entries, len(table)], [due, 5])
        self.assertEqual(table.road_to(("p", ("z", ""))), ("p", "q", "p"))

    def test_no_variables(self):
        table = Table(Program("p", {"p": ((), ("p",))}))
        self.assertEqual([table.entries, table.road_to(("p", ()))], [[("p", ())], ("p",)])

    def test_any_value_in_a_table(self):
        program = Program("p", {"p": ((), ("q",)), "q": ((), ())}, starts={"a": "zs"})
        table = Table(program)
        for bad in [("p", ("sz",)), ("p", ("z",)), ("p", ()), ("p", ("zs", "zs")), ("p", ["zs"]), ["p", ("zs",)],
                    ("r", ("zs",)), ("p",), ("p", ("zs",), 0), ("p", "zs"), (("p",), ("zs",)), "p", ("p", None),
                    ("p", (Agreeable(),)), (Agreeable(), ("zs",)), (Angry(), ("zs",)), ("p", (Angry(),)),
                    ("p", (["zs"],)), (["p"], ("zs",))] + odd_values():
            self.assertIs(bad in table, False)
            self.refused(NoEntry, bad, table.road_to, bad)
        self.assertIs(("p", ("zs",)) in table, True)

    def test_entries_are_new_each_time(self):
        table = Table(Program("p", {"p": ((), ("p",))}))
        table.entries.clear()
        self.assertEqual([table.entries, len(table)], [[("p", ())], 1])
        self.assertRaises(AttributeError, setattr, table, "entries", [])

    def test_programs_that_are_none(self):
        for bad in ["p", {}, Program, Operation(1)] + odd_values():
            self.refused(BadProgram, bad, Table, bad)


class Large(Case):
    def test_twenty_thousand_entries(self):
        program = Program("h", largest())
        table = Table(program)
        self.assertEqual(len(table), 20000)
        self.assertIs(is_right(program), True)
        self.assertIs(is_closed(program, table.entries), True)

    def test_one_more(self):
        program = Program("h", largest(1))
        self.refused(TooLarge, program, Table, program)

    def test_all_that_need_the_table(self):
        for blocks in (largest(1), shifting(12, 1)):
            program = Program("h", blocks)
            self.refused(TooLarge, program, Table, program)
            self.refused(TooLarge, program, is_right, program)
            self.refused(TooLarge, program, worst, program)
            self.refused(TooLarge, program, verdict, program, ("h", 0))
            self.refused_while(TooLarge, program, verdicts, program)

    def test_whatever_rows_the_program_has(self):
        # A row that fails at once does not help, and no row of an operation has a need here.
        blocks = shifting(12, 1)
        blocks["h"] = ((("do", None, "slt", "va", "va"),) + blocks["h"][0], blocks["h"][1])
        program = Program("h", blocks)
        self.refused(TooLarge, program, verdict, program, ("h", 0))
        self.refused(TooLarge, program, is_right, program)
        self.refused(TooLarge, program, worst, program)

    def test_what_needs_no_table(self):
        program = Program("h", shifting(12, 1))
        self.assertIs(is_closed(program, []), False)
        self.assertEqual(len(list(roads(program, 4))), 6)
        self.assertEqual(len(Walk(program, ("h", "ma", "a"))), 12)


class Closed(Case):
    def test_right_entries_and_others(self):
        chance = random.Random(100)
        kinds = set()
        for program, first, blocks, starts in programs(13, 60):
            entries = Table(program).entries
            for told in (entries, tuple(entries), entries[::-1], entries + entries[:1], entries * 2):
                self.assertIs(is_closed(program, told), True)
            self.assertIs(is_closed(program=program, entries=tuple(entries)), True)
            for entry in entries:
                # Each entry is behind another one, or the first one: none can be missing.
                left = [other for other in entries if other != entry]
                self.assertIs(is_closed(program, left), False)
            for _ in range(6):
                texts = tuple(chance.choice(("", "z", "s", "zs")) for _ in program.variables)
                more = (chance.choice(program.words), texts)
                _, behind, _ = walked_from(program, blocks, more)
                due = all((word, behind) in entries + [more] for word in blocks[more[0]][1])
                self.assertIs(is_closed(program, entries + [more]), due)
                self.assertIs(is_closed(program, tuple([more] + entries)), due)
                kinds.add((due, more in entries))
        self.assertEqual(kinds, {(True, True), (True, False), (False, False)})

    def test_more_than_is_reached(self):
        program = Program("p", {"p": ((), ()), "q": ((("do", "a", "load"),), ("p",))})
        begin, other = ("p", ("",)), ("q", ("z",))
        self.assertIs(is_closed(program, [begin]), True)
        self.assertIs(is_closed(program, [begin, other]), True)
        self.assertIs(is_closed(program, [other]), False)
        self.assertIs(is_closed(program, []), False)

    def test_values_of_another_form(self):
        program = Program("p", {"p": ((), ("q",)), "q": ((), ())}, starts={"a": "zs"})
        right = [("p", ("zs",)), ("q", ("zs",))]
        self.assertIs(is_closed(program, right), True)
        for bad in [("p", ("sz",)), ("q", ("sz",)), ("q", ("a",)), ["q", ("zs",)], ("q", ["zs"]), ("r", ("zs",)), ("q", ("zs", "")), ("q", ()),
                    ("q", "zs"), ("q",), ("q", ("zs",), 0), "q", ("q", (None,)), (Agreeable(), ("zs",)),
                    ("q", (Agreeable(),)), ("q", (Angry(),))] + odd_values():
            self.assertIs(is_closed(program, right + [bad]), False)
        for bad in [{entry: 1 for entry in right}, set(right), iter(right), right[0], Table(program)] + odd_values():
            self.assertIs(is_closed(program, bad), False)

    def test_entries_stay(self):
        program = Program("p", {"p": ((), ())})
        entries = [("p", ())]
        is_closed(program, entries)
        self.assertEqual(entries, [("p", ())])

    def test_programs_that_are_none(self):
        for bad in ["p", {}, Program] + odd_values():
            self.refused(BadProgram, bad, is_closed, bad, [])
            self.refused(BadProgram, bad, is_closed, bad, None)


def row_of_begin(program):
    """The row of dresses at the beginning of a program."""
    return row_of({name: set(dress) for name, dress in program.starts().items()})


def walked_from(program, blocks, entry):
    """What a walk through the block of an entry tells, from the dresses of the entry on."""
    starts = dict(zip(program.variables, entry[1]))
    return walked(blocks, starts, (entry[0],))


if __name__ == "__main__":
    unittest.main()
