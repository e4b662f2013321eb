"""Point [24]: menus of changes."""

import itertools
import random
import unittest

from signskept.errors import BadChange, BadChosen, BadNumber, BadProgram, TooLarge, TooMany
from signskept.menus import Menu
from signskept.operations import Operation
from signskept.programs import Program
from tests.groups import operations_of
from tests.helpers import Agreeable, Angry, Case, odd_values
from tests.plain import explored, names_of, random_program, random_row, random_table, with_table
from tests.test_tables import shifting

LOAD, SHR = ("do", "a", "load"), ("do", None, "shr", "a")
BLOCKS = {"p": ((LOAD, SHR, ("move", "b", "a")), ("q",)), "q": ((("do", None, "sar", "b"),), ("p", "q"))}
STARTS = {"c": "sz", "b": "s"}
ROW, OUT, END, NEW, START = (("row", ("p", 0), ("do", "a", "loadz")), ("out", ("p", 1)), ("put", ("p", 3), "s", "b"), ("put", ("p", 1), "z", "new"),
                             ("start", "c", ""))


def program():
    return Program("p", BLOCKS, starts=STARTS, table={"own": Operation(0)})


def all_chosen(many):
    """All choices of so many changes, smaller ones first, those of one size ascending."""
    return [chosen for size in range(many + 1) for chosen in itertools.combinations(range(many), size)]


def changed(first, blocks, starts, table, changes):
    """The parts of a program with some changes done one after another, from the last place on; None if they clash.

    The rows at each place are collected, and then written anew.
    """
    if len({change[1] for change in changes if change[0] in ("row", "out")}) < len([1 for change in changes if change[0] in ("row", "out")]):
        return None
    if len({change[1] for change in changes if change[0] == "start"}) < len([1 for change in changes if change[0] == "start"]):
        return None
    told = {name: "" for name in names_of(blocks, starts)}
    told.update(starts)
    told.update({change[1]: change[2] for change in changes if change[0] == "start"})
    made = {}
    for word, (rows, goes) in blocks.items():
        slots = [[row] for row in rows] + [[]]
        for change in changes:
            if change[0] in ("row", "out") and change[1][0] == word:
                slots[change[1][1]] = [change[2]] if change[0] == "row" else []
        for change in reversed(changes):
            if change[0] == "put" and change[1][0] == word:
                slots[change[1][1]].insert(0, ("widen",) + change[2:])
        made[word] = (tuple(row for slot in slots for row in slot), goes)
    return first, made, told


def random_change(chance, blocks, names, table):
    """A change that may be done alone."""
    places = [(word, at) for word in blocks for at in range(len(blocks[word][0]))]
    kind = chance.choice(["row", "out", "put", "put", "start"])
    if kind == "start" and names:
        return (kind, chance.choice(names), chance.choice(["", "z", "s", "zs", "sz"]))
    if kind in ("row", "out") and places:
        place = chance.choice(places)
        return ("out", place) if kind == "out" else ("row", place, random_row(chance, ["a", "z", "x"], list(table), table))
    word = chance.choice(sorted(blocks))
    return ("put", (word, chance.randint(0, len(blocks[word][0]))), chance.choice("zs"), chance.choice(["a", "z", "more"]))


def cases(seed, count, most=5, **named):
    """Programs with changes, as tuples of all that a test needs of them."""
    chance = random.Random(seed)
    for _ in range(count):
        told = random_table(chance, 1)
        table = with_table(told)
        first, blocks, starts = random_program(chance, table=table, **named)
        one = Program(first, blocks, starts=starts, table=operations_of(told))
        changes = [random_change(chance, blocks, names_of(blocks, starts), table) for _ in range(chance.randint(0, most))]
        yield chance, one, (first, blocks, starts, table), changes


class Menus(Case):
    def test_what_a_menu_tells(self):
        menu = Menu(program(), ROW, OUT, END, NEW, START)
        self.assertEqual([menu[0], menu[1], menu[2], menu[3], menu[4]], [ROW, OUT, END, NEW, START])
        self.assertEqual([len(menu), menu.program], [5, program()])
        empty = Menu(program=program())
        self.assertEqual([len(empty), empty.changed(()), list(empty.helping())], [0, program(), []])
        self.assertRaises(TypeError, list, menu)
        self.assertRaises(AttributeError, setattr, menu, "program", program())

    def test_setting_changes(self):
        menu = Menu(program(), ROW, OUT)
        menu[1] = START
        menu[0] = END
        self.assertEqual([menu[0], menu[1], len(menu)], [END, START, 2])
        self.assertEqual(menu.changed((0, 1)), Program("p", {**BLOCKS, "p": (BLOCKS["p"][0] + (("widen", "s", "b"),), ("q",))},
                                                       starts={"b": "s"} | {"c": ""}, table={"own": Operation(0)}))

    def test_indexes(self):
        menu = Menu(program(), ROW, OUT)
        for bad in [2, -1, -2, 10 ** 30, "0", (0,)] + odd_values():
            self.refused(BadNumber, bad, lambda: menu[bad])
            self.refused(BadNumber, bad, menu.__setitem__, bad, None)
        for bad in [0, True, None]:
            self.refused(BadNumber, bad, lambda: Menu(program())[bad])
        self.assertEqual([menu[0], menu[1]], [ROW, OUT])


class Changed(Case):
    def test_each_kind_alone(self):
        rows, second = BLOCKS["p"][0], BLOCKS["q"]
        for change, due, starts in [(ROW, (ROW[2],) + rows[1:], STARTS), (OUT, rows[:1] + rows[2:], STARTS), (END, rows + (("widen", "s", "b"),), STARTS),
                                    (NEW, rows[:1] + (("widen", "z", "new"),) + rows[1:], STARTS), (START, rows, {"b": "s", "c": ""}),
                                    (("start", "a", "sz"), rows, {**STARTS, "a": "zs"}), (("put", ("p", 0), "z", "c"), (("widen", "z", "c"),) + rows, STARTS),
                                    (("row", ("p", 2), ("do", "x", "own")), rows[:2] + (("do", "x", "own"),), STARTS)]:
            menu = Menu(program(), change)
            blocks = {"p": (due, ("q",)), "q": second}
            whole = {"a": "", "b": "", "c": ""}
            self.assertEqual(menu.changed(chosen=(0,)), Program("p", blocks, starts={**whole, **starts}, table={"own": Operation(0)}))
            self.assertEqual(menu.changed(()), program())

    def test_all_kinds_together(self):
        menu = Menu(program(), END, ("put", ("p", 1), "s", "b"), ROW, NEW, OUT, START, ("put", ("q", 0), "z", "b"), ("put", ("p", 3), "z", "a"))
        made = menu.changed((0, 1, 2, 3, 4, 5, 6, 7))
        self.assertEqual(made.rows("p"), (ROW[2], ("widen", "s", "b"), ("widen", "z", "new"), ("move", "b", "a"), ("widen", "s", "b"), ("widen", "z", "a")))
        self.assertEqual(made.rows("q"), (("widen", "z", "b"), ("do", None, "sar", "b")))
        self.assertEqual([made.variables, made.starts()["c"].marks, made.starts()["b"].marks], [("a", "b", "c", "new"), "", "s"])
        self.assertEqual(menu.changed((1, 4)).rows("p"), (LOAD, ("widen", "s", "b"), ("move", "b", "a")))

    def test_variables_that_lose_their_last_row_stay(self):
        one = Program("p", {"p": ((("do", "x", "load"), ("do", None, "shr", "y")), ())})
        made = Menu(one, ("out", ("p", 0)), ("row", ("p", 1), ("do", "v", "load"))).changed((0, 1))
        self.assertEqual([made.variables, made.rows("p")], [("v", "x", "y"), (("do", "v", "load"),)])

    def test_beside_another_writing(self):
        kinds = {True: 0, False: 0}
        for chance, one, (first, blocks, starts, table), changes in cases(240, 120, 6):
            menu = Menu(one, *changes)
            self.assertEqual([menu[at] for at in range(len(menu))], changes)
            for chosen in all_chosen(len(changes)):
                due = changed(first, blocks, starts, table, [changes[at] for at in chosen])
                kinds[due is not None] += 1
                if due is None:
                    self.refused(BadChosen, chosen, menu.changed, chosen)
                else:
                    operations = {word: one.operation(word) for word in table if word not in with_table({})}
                    self.assertEqual(menu.changed(chosen), Program(due[0], due[1], starts=due[2], table=operations))
            self.assertEqual(menu.program, one)
        self.assertGreater(min(kinds.values()), 200)

    def test_clashes(self):
        menu = Menu(program(), ROW, ("out", ("p", 0)), ("row", ("p", 0), ROW[2]), START, ("start", "c", "z"), ("start", "b", ""), ("out", ("p", 0)),
                    ("put", ("p", 0), "z", "a"))
        for chosen in all_chosen(8):
            rows = len(set(chosen) & {0, 1, 2, 6})
            starts = len(set(chosen) & {3, 4})
            if rows > 1 or starts > 1:
                self.refused(BadChosen, chosen, menu.changed, chosen)
            else:
                self.assertIsInstance(menu.changed(chosen), Program)

    def test_choices_of_another_form(self):
        menu = Menu(program(), ROW, OUT, END)
        for bad in [(3,), (-1,), (1, 0), (0, 0), (0, 1, 1), (2, 2), (0, 2, 2), (2, 0), (0, 2, 1), [0], [0, 1], [], {0: 1}, {0}, "0", ("0",), (True,), (False, 1), (0, True), (None,), (0.0,),
                    ((0,),), 0, None, iter([0]), (Agreeable(),), (0, Angry()), range(2), (0, 10 ** 30)] + odd_values():
            self.refused(BadChosen, bad, menu.changed, bad)
        self.refused(BadChosen, bad := (0,), Menu(program()).changed, bad)

    def test_programs_that_break_a_rule(self):
        # Each change leads to a program, but all together have too many rows, or too many variables.
        one = Program("p", {"p": ((LOAD,) * 59, ())})
        menu = Menu(one, ("put", ("p", 0), "z", "a"), ("put", ("p", 59), "z", "a"), ("out", ("p", 7)))
        self.refused(BadChosen, chosen := (0, 1), menu.changed, chosen)
        # Done at once, the row that goes makes room for the two that come.
        self.assertEqual([len(menu.changed(chosen).places()) for chosen in [(0,), (1, 2), (0, 1, 2)]], [60, 59, 60])
        names = ["v" + letter for letter in "abcdefghijk"]
        one = Program("p", {"p": (tuple(("do", name, "load") for name in names), ())})
        menu = Menu(one, ("put", ("p", 0), "z", "x"), ("row", ("p", 1), ("do", "y", "load")), ("row", ("p", 2), ("do", "x", "load")), ("out", ("p", 3)))
        for bad in [(0, 1), (1, 2), (0, 1, 3), (0, 1, 2, 3)]:
            self.refused(BadChosen, bad, menu.changed, bad)
        self.assertEqual([len(menu.changed(chosen).variables) for chosen in [(0,), (1,), (0, 2), (0, 2, 3)]], [12] * 4)

    def test_told_choices_lead_nowhere_else(self):
        menu = Menu(program(), ROW, OUT)
        first = menu.changed((0, 1))
        self.assertEqual([menu.changed((0, 1)), menu.program, len(menu)], [first, program(), 2])


class Helping(Case):
    def check(self, menu, one, parts, changes):
        """What helps, beside all choices tried; the table of rules is that of the parts."""
        first, blocks, starts, table = parts
        due = []
        for chosen in all_chosen(len(changes)):
            made = changed(first, blocks, starts, table, [changes[at] for at in chosen])
            if made is not None and not explored(made[0], made[1], made[2], table)[1]:
                due.append(chosen)
        self.assertEqual(list(menu.helping()), due)
        self.assertEqual(menu.fewest(), [chosen for chosen in due if len(chosen) == len(due[0])])
        self.assertEqual(menu.least(), [chosen for chosen in due if not any(set(other) < set(chosen) for other in due)])
        return due

    def test_beside_all_choices(self):
        kinds = {"none": 0, "empty": 0, "some": 0}
        for chance, one, parts, changes in cases(241, 200, 5, many_blocks=3, many_names=2, most_rows=3):
            menu = Menu(one, *changes)
            due = self.check(menu, one, parts, changes)
            kinds["none" if not due else "empty" if due[0] == () else "some"] += 1
        self.assertGreater(min(kinds.values()), 15)

    def test_eight_changes(self):
        for chance, one, parts, changes in cases(242, 4, 0, many_blocks=2, many_names=2, most_rows=3):
            first, blocks, starts, table = parts
            changes = [random_change(chance, blocks, names_of(blocks, starts), table) for _ in range(8)]
            self.check(Menu(one, *changes), one, parts, changes)

    def test_by_hand(self):
        rows = (LOAD, SHR, ("do", None, "sar", "b"))
        one = Program("p", {"p": (rows, ())})
        changes = [("row", ("p", 0), ("do", "a", "loadz")), ("put", ("p", 1), "z", "a"), ("out", ("p", 1)), ("start", "b", "s"), ("put", ("p", 2), "s", "b"),
                   ("put", ("p", 1), "s", "a")]
        menu = Menu(one, *changes)
        self.assertEqual(menu.fewest(), [(0, 3), (0, 4), (1, 3), (1, 4), (2, 3), (2, 4)])
        self.assertEqual(menu.least(), menu.fewest())
        found = list(menu.helping())
        self.assertIn((0, 1, 3), found)
        # Behind the widening by z comes the one by s, in the order of the menu; where z is first, a has only s.
        self.assertNotIn((1, 3, 5), found)
        menu[5] = ("put", ("p", 0), "s", "a")
        self.assertIn((1, 3, 5), list(menu.helping()))

    def test_one_more_that_is_needed_once_another_is_done(self):
        # The first alone helps; so does the second with the third, that are no part of it.
        one = Program("p", {"p": ((LOAD, SHR, ("do", None, "sar", "a")), ())})
        changes = [("row", ("p", 0), ("do", "a", "one")), ("out", ("p", 1)), ("put", ("p", 2), "s", "a"), ("put", ("p", 1), "z", "a")]
        menu = Menu(one, *changes)
        self.assertEqual([menu.fewest(), menu.least()], [[(0,)], [(0,), (1, 2), (2, 3)]])

    def test_nothing_to_change(self):
        right = Program("p", {"p": ((LOAD,), ("p",))})
        menu = Menu(right, ("put", ("p", 0), "z", "a"), ("row", ("p", 0), SHR))
        self.assertEqual([list(menu.helping()), menu.fewest(), menu.least()], [[(), (0,), (0, 1)], [()], [()]])
        wrong = Program("p", {"p": ((LOAD, SHR), ())})
        menu = Menu(wrong, ("start", "a", "z"))
        self.assertEqual([list(menu.helping()), menu.fewest(), menu.least()], [[], [], []])
        self.assertEqual([list(Menu(wrong).helping()), Menu(wrong).least(), Menu(right).fewest()], [[], [], [()]])

    def test_new_each_time(self):
        menu = Menu(Program("p", {"p": ((LOAD,), ())}), ("start", "a", "z"))
        menu.fewest().clear()
        menu.least().clear()
        self.assertEqual([menu.fewest(), menu.least()], [[()], [()]])

    def test_tables_that_are_too_large(self):
        large = Program("h", shifting(12, 1))
        menu = Menu(large, ("put", ("h", 0), "z", "va"))
        self.refused(TooLarge, large, lambda: list(menu.helping()))
        self.refused(TooLarge, large, menu.fewest)
        self.refused(TooLarge, large, menu.least)
        self.assertEqual(menu.changed((0,)), large.with_more(("h", 0), ("widen", "z", "va")))
        # The program is small and not right, and what it is changed to is too large.
        small = large.with_row(("a", 0), ("do", None, "slt", "va", "va"))
        menu = Menu(small, ("row", ("a", 0), large["a", 0]))
        for call in (lambda: list(menu.helping()), menu.fewest, menu.least):
            with self.assertRaises(TooLarge) as caught:
                call()
            self.assertEqual(caught.exception.value, large)

    def test_only_tables_that_are_needed(self):
        # Where fewer changes help, no table of more is needed.
        large = Program("h", shifting(12, 1))
        menu = Menu(large.with_row(("b", 0), large["a", 0]), ("row", ("b", 0), large["b", 0]))
        self.assertEqual([menu.fewest(), menu.least()], [[()], [()]])
        found = iter(menu.helping())
        self.assertEqual(next(found), ())
        self.assertRaises(TooLarge, list, found)


class Refused(Case):
    def bad_changes(self):
        found = [("row", ("p", 3), LOAD), ("row", ("p", -1), LOAD), ("row", ("r", 0), LOAD), ("row", ("p", True), LOAD), ("row", ["p", 0], LOAD),
                 ("row", ("p", 0), ("do", "a", "none")), ("row", ("p", 0), list(LOAD)), ("row", ("p", 0), None), ("row", ("p", 0)), ("row", ("p", 0), LOAD, LOAD),
                 ("row", ("p", 0), ("widen", "zs", "a")), ("row", ("p", 0), Agreeable()), ("row", ("p", 0), Angry()), ["row", ("p", 0), LOAD],
                 ("out", ("p", 3)), ("out", ("q", 1)), ("out",), ("out", ("p", 0), ("p", 1)), ("out", [("p", 0)]), ("out", "p"), ("out", None), ("out", Angry()),
                 ("put", ("p", 4), "z", "a"), ("put", ("p", -1), "z", "a"), ("put", ("r", 0), "z", "a"), ("put", ("p", 0), "zs", "a"), ("put", ("p", 0), "", "a"),
                 ("put", ("p", 0), "z", "A"), ("put", ("p", 0), "z", ""), ("put", ("p", 0), "z", None), ("put", ("p", 0), None, "a"), ("put", ("p", 0), "a", "z"),
                 ("put", ("p", 0), "z"), ("put", ("p", 0), ("widen", "z", "a")), ("put", ("p", 0), Agreeable(), "a"), ("put", ("p", 0), "z", Angry()),
                 ("start", "x", "z"), ("start", "own", "z"), ("start", "a", "zz"), ("start", "a", "-"), ("start", "a", None), ("start", "a"), ("start", ("a",), "z"),
                 ("start", None, ""), ("start", "a", Agreeable()), ("start", Agreeable(), "z"), ("start", "a", ("z",)), ("starts", "a", "z"), ("Row", ("p", 0), LOAD),
                 (Agreeable(), ("p", 0)), (None, ("p", 0)), (), "out", ("more", ("p", 0), LOAD), ("out", ("p", 0.0)), ("put", ("p", 0.0), "z", "a")]
        return found + odd_values()

    def test_changes_that_are_none(self):
        menu = Menu(program(), ROW, OUT)
        for bad in self.bad_changes():
            self.refused(BadChange, bad, Menu, program(), bad)
            self.refused(BadChange, bad, Menu, program(), ROW, bad, OUT, None)
            self.refused(BadChange, bad, menu.__setitem__, 1, bad)
        self.assertEqual([menu[0], menu[1]], [ROW, OUT])

    def test_changes_that_lead_to_no_program(self):
        full = Program("p", {"p": ((LOAD,) * 60, ())})
        self.refused(BadChange, bad := ("put", ("p", 60), "z", "a"), Menu, full, ("out", ("p", 0)), bad)
        names = ["v" + letter for letter in "abcdefghijkl"]
        full = Program("p", {"p": (tuple(("do", name, "load") for name in names), ())})
        for bad in [("put", ("p", 0), "z", "more"), ("row", ("p", 0), ("do", "more", "load"))]:
            self.refused(BadChange, bad, Menu, full, bad)
        menu = Menu(full, ("out", ("p", 0)))
        self.refused(BadChange, bad, menu.__setitem__, 0, bad)
        self.assertEqual(menu[0], ("out", ("p", 0)))

    def test_nine_changes(self):
        with self.assertRaises(TooMany) as caught:
            Menu(program(), *[None] * 9)
        self.assertEqual(caught.exception.value, 9)
        with self.assertRaises(TooMany) as caught:
            Menu(program(), *[OUT] * 12)
        self.assertEqual(caught.exception.value, 12)
        self.assertEqual(len(Menu(program(), *[OUT] * 8)), 8)

    def test_programs_that_are_none(self):
        for bad in ["p", BLOCKS, Program] + odd_values():
            self.refused(BadProgram, bad, Menu, bad, None)
            self.refused(BadProgram, bad, Menu, bad, *[None] * 9)


if __name__ == "__main__":
    unittest.main()
