"""Points [2], [10], [11]: tables of nearly 20000 entries are gone through, and larger ones are refused."""

import unittest

from signskept.bestbooks import BestBook, book_cost, plain_books
from signskept.books import Book, alone, is_kept
from signskept.cuts import Cheapest, cost_of, flow_sum
from signskept.drafts import Draft, tried
from signskept.errors import TooLarge
from signskept.everyroad import EveryRoad, is_paper
from signskept.functions import Function, Group
from signskept.joined import joined_sum
from signskept.leaving import Bench, cheapest_left, greatest, leavable, may_leave
from signskept.menus import Menu
from signskept.mixed import clashes, keepers
from signskept.papers import Checker, paper_of
from signskept.plays import Play, bits_for, is_true
from signskept.programs import Program
from signskept.puts import count_on, placed, serves, unsure
from signskept.roads import Walk, is_road, roads
from signskept.spots import goes_of, points, reached, spots
from signskept.tables import Table, is_closed, is_right, verdict, verdicts, worst
from signskept.texts import format_program, parse_program
from signskept.wants import gift, unfit, wanted
from signskept.wholeruns import Run
from tests.helpers import Case
from tests.test_tables import shifting

SLT = ("do", None, "slt", "va", "va")


def blocks_of(many, straight):
    """A ring through many variables, with an end, where a row wants s of a variable behind a widening by it."""
    blocks = shifting(many, straight)
    blocks["b"] = (blocks["b"][0], ("h", "end"))
    blocks["end"] = ((("widen", "s", "va"), SLT), ())
    return blocks


def nearly():
    return Program("h", blocks_of(11, 4))


def larger():
    return Program("h", blocks_of(12, 1))


class Nearly(Case):
    def test_what_goes_through_the_table(self):
        program = nearly()
        table = Table(program)
        self.assertTrue(17500 < len(table) <= 20000, len(table))
        entries = table.entries
        self.assertEqual([len(entries), entries == sorted(set(entries))], [len(table), True])
        self.assertIs(is_closed(program, entries), True)
        self.assertIs(is_closed(program, entries[:-1]), False)
        for entry in entries[::1500]:
            road = table.road_to(entry)
            self.assertEqual([is_road(program, road), road[-1]], [True, entry[0]])
            self.assertEqual(Walk(program, road[:-1]).dresses() if len(road) > 1 else entry[1], entry[1])
        self.assertIs(is_right(program), True)
        self.assertIsNone(worst(program))
        self.assertEqual(len(verdict(program, ("end", 1)).entries), len(table))
        self.assertEqual([bool(one) for one in verdicts(program)], [False] * len(program.places()))

    def test_what_fails_is_found(self):
        bent = nearly().without([("end", 0)])
        # At its end b has loaded a value with s, unless it goes round once more by a.
        self.assertIs(is_right(bent), True)
        bent = nearly().with_row(("end", 1), ("do", None, "shr", "vk"))
        found = worst(bent)
        self.assertEqual([found.place, found.road[-1], is_right(bent)], [("end", 1), "end", False])
        self.assertEqual(len(Walk(bent, found.road).fails()), 1)
        self.assertIs(Checker(bent)(paper_of(bent)), True)

    def test_what_needs_several_tables(self):
        program = nearly()
        self.assertEqual([may_leave(program, [("end", 0)]), list(leavable(program)), greatest(program), cheapest_left(program)],
                         [True, [(), (("end", 0),)], [(("end", 0),)], (("end", 0),)])
        menu = Menu(program, ("out", ("end", 0)), ("row", ("end", 1), ("do", None, "shr", "va")))
        self.assertEqual([list(menu.helping()), menu.fewest(), menu.least()], [[(), (0,)], [()], [()]])
        paper = paper_of(program)
        checker = Checker(program)
        self.assertEqual([paper[0], checker(paper), checker(("right", paper[1][1:])), checker.accepted], ["right", True, False, 1])
        one = Group("f", {"f": Function("h", blocks_of(11, 4)), "g": Function("p", {"p": ((), ())})})
        self.assertEqual([is_kept(one, Book(one)), keepers(one, {"f": Book(one), "g": Book(one)})], [True, ["f", "g"]])


class Larger(Case):
    def test_each_that_needs_a_table(self):
        program = larger()
        for call in (Table, is_right, worst, greatest, cheapest_left, paper_of):
            self.refused(TooLarge, program, call, program)
        for place in program.places()[::5]:
            self.refused(TooLarge, program, verdict, program, place)
        self.refused(TooLarge, program, may_leave, program, [])
        self.refused_while(TooLarge, program, verdicts, program)
        self.refused_while(TooLarge, program, leavable, program)
        with self.assertRaises(TooLarge) as caught:
            may_leave(program, [("end", 0)])
        self.assertEqual(caught.exception.value, program.without([("end", 0)]))
        menu = Menu(program, ("out", ("end", 0)))
        for call in (lambda: list(menu.helping()), menu.fewest, menu.least):
            self.refused(TooLarge, program, call)
        one = Group("f", {"f": Function("h", blocks_of(12, 1)), "g": Function("p", {"p": ((), ())})})
        book = Book(one)
        for call in (lambda: is_kept(one, book), lambda: keepers(one, {"f": book, "g": book})):
            with self.assertRaises(TooLarge) as caught:
                call()
            self.assertEqual(caught.exception.value, alone(one, "f", book))
            self.assertEqual(caught.exception.value, program)

    def test_what_needs_none_goes_on(self):
        program = larger()
        road = ("h", "ma", "b", "end")
        self.assertEqual([len(Walk(program, road)), len(list(roads(program, 4)))], [14, 7])
        self.assertIs(is_closed(program, []), False)
        run = bits_for(program, road, narrow=2, wide=4)
        self.assertIs(is_true(program, road, run, narrow=2, wide=4), True)
        self.assertEqual(Play(program, road, run, narrow=2, wide=4).fails(), [])
        self.assertEqual(parse_program(format_program(program)), program)
        bench = Bench(program)
        bench -= ("end", 0)
        self.assertEqual(bench.tried([], len), 1)
        draft = Draft(program)
        self.assertEqual([tried(draft, [("out", [("end", 0)])]), len(draft)], [program.without([("end", 0)]), 1])
        self.assertEqual(Menu(program, ("out", ("end", 0))).changed((0,)), program.without([("end", 0)]))

    def test_what_is_told_by_one_mark_goes_on(self):
        program = larger()
        self.assertEqual([len(reached(program)), len(goes_of(program)), len(points(program)), len(spots(program))], [5, 7, 20, 27])
        self.assertEqual([unfit(program, "s"), wanted(program, ("end", 1), "s"), gift(program, ("a", 0), "s")], [[], ["va"], ("va", None)])
        self.assertIs(serves(program, "s", []), True)
        self.assertGreater(len(unsure(program, "s", [])), 20)
        self.assertEqual(count_on(program, [(("end", "", 1), "va")], ("h", "ma", "b", "end")), 1)
        self.assertEqual(len(placed(program, "s", [(("end", "", 1), "va")]).places()), 16)
        bent = program.without([("end", 0)]).with_row(("end", 0), ("do", None, "slt", "vl", "vl"))
        # Ahead of the last go, at a point of b, it is cheapest.
        best = Cheapest(bent, "s", {("b", "end"): 3})
        self.assertEqual([best.cost, cost_of(bent, best.puts, {("b", "end"): 3}), flow_sum(bent, "s", best.flow, {("b", "end"): 3})], [1, 1, 1])
        self.assertRaises(TooLarge, Table, bent)
        self.assertIs(Checker(bent)(("cheapest", "s", {("b", "end"): 3}, best.puts, best.flow)), True)
        paper = EveryRoad(program, "s", "va").paper
        self.assertIs(is_paper(program, "s", "va", paper), True)

    def test_what_is_told_of_groups_goes_on(self):
        one = Group("f", {"f": Function("h", blocks_of(12, 1)), "g": Function("p", {"p": ((), ())})})
        book = Book(one)
        # Four times round: eleven rows, one more, and three goes each time.
        self.assertEqual([len(alone(one, "f", book).places()), len(Run(one, [0, 1] * 20)), clashes(one, {"f": book, "g": book})], [15, 48, []])
        self.assertEqual([len(list(plain_books(one, "s"))), book_cost(one, "s", book), BestBook(one, "s").cost, joined_sum(one, "s", [])], [1, 0, 0, 0])


if __name__ == "__main__":
    unittest.main()
