"""Point [25]: papers, and those who judge them."""

import random
import unittest

from signskept.cuts import Cheapest, cost_of
from signskept.errors import BadProgram, NoEnd, NotSimple, TooLarge
from signskept.everyroad import EveryRoad
from signskept.papers import Checker, paper_of
from signskept.plays import Play, bits_for, is_true
from signskept.programs import Program
from signskept.roads import is_road
from signskept.spots import goes_of
from signskept.tables import Table, is_right, verdicts, worst
from tests.groups import operations_of
from tests.helpers import Agreeable, Angry, Case, odd_values
from tests.plain import (TEXTS, explored, played, random_fit_program, random_fit_table, random_program, random_table, walked,
                         with_table)
from tests.test_tables import shifting

LOAD, SHR = ("do", "a", "load"), ("do", None, "shr", "a")
WRONG = Program("p", {"p": ((LOAD,), ("q", "p")), "q": ((SHR,), ("p",))})
RIGHT = Program("p", {"p": ((LOAD, ("widen", "z", "a")), ("q", "p")), "q": ((SHR,), ("p",)), "r": ((SHR,), ("q",))})
ENDING = Program("p", {"p": ((LOAD,), ("q", "p")), "q": ((SHR,), ())})


def programs(seed, count, **named):
    """Programs with own operations, as tuples of all that a test needs of them."""
    chance = random.Random(seed)
    for _ in range(count):
        told = random_table(chance, 2)
        table = with_table(told)
        first, blocks, starts = random_program(chance, table=table, **named)
        yield chance, Program(first, blocks, starts=starts, table=operations_of(told)), (first, blocks, starts, table)


class Judged(Case):
    """A test case with questions for checkers."""

    def accepts(self, program, paper):
        self.assertIs(Checker(program)(paper), True, paper)

    def refuses(self, program, *papers):
        checker = Checker(program)
        for paper in papers:
            self.assertIs(checker(paper), False, paper)
        self.assertEqual(checker.accepted, 0)


class Papers(Judged):
    def test_of_right_and_wrong_programs(self):
        kinds = {"right": 0, "wrong": 0}
        for chance, program, (first, blocks, starts, table) in programs(250, 200):
            paper = paper_of(program=program)
            _, fails = explored(first, blocks, starts, table)
            self.assertEqual(paper[0], "wrong" if fails else "right")
            self.accepts(program, paper)
            kinds[paper[0]] += 1
            if fails:
                _, road, run, narrow, wide = paper
                self.assertEqual([narrow, wide, len(paper), is_road(program, road)], [2, 4, 5, True])
                self.assertTrue(played(blocks, starts, road, run, 2, 4, table)[1])
            else:
                self.assertEqual(len(paper), 2)
        self.assertGreater(min(kinds.values()), 40)

    def test_new_each_time(self):
        self.assertEqual(paper_of(RIGHT), paper_of(RIGHT))
        paper_of(RIGHT)[1].clear()
        self.accepts(RIGHT, paper_of(RIGHT))

    def test_tables_that_are_too_large(self):
        program = Program("h", shifting(12, 1))
        self.refused(TooLarge, program, paper_of, program)
        # Whoever judges searches for nothing, and needs no table.
        self.refuses(program, ("right", []), ("right", [("h", ("",) * 12)]))
        failing = program.with_more(("h", 0), ("do", None, "slt", "va", "va"))
        self.refused(TooLarge, failing, paper_of, failing)
        self.accepts(failing, ("wrong", ("h",), bits_for(failing, ("h",), narrow=2, wide=4), 2, 4))
        self.accepts(program, ("cheapest", "z", None, [], []))

    def test_programs_that_are_none(self):
        for bad in ["p", {}, Program, Checker] + odd_values():
            self.refused(BadProgram, bad, paper_of, bad)
            self.refused(BadProgram, bad, Checker, bad)


class Counted(Judged):
    def test_accepted(self):
        one, other = Checker(program=RIGHT), Checker(WRONG)
        right, wrong = paper_of(RIGHT), paper_of(WRONG)
        self.assertEqual([one.accepted, other.accepted], [0, 0])
        told = []
        for paper in [right, wrong, right, None, wrong, right]:
            told += [one(paper=paper), other(paper), (one.accepted, other.accepted)]
        self.assertEqual(told, [True, False, (1, 0), False, True, (1, 1), True, False, (2, 1), False, False, (2, 1),
                                False, True, (2, 2), True, False, (3, 2)])
        self.assertRaises(AttributeError, setattr, one, "accepted", 0)
        self.assertEqual(Checker(RIGHT).accepted, 0)

    def test_values_of_any_other_form(self):
        right, wrong = paper_of(RIGHT), paper_of(WRONG)
        for bad in [(), ("right",), ("wrong",), ("every",), ("cheapest",), "right", list(right), right + (1,), right[1], ("Right", right[1]), ("left", right[1]),
                    (right[1], "right"), (None, right[1]), (Agreeable(), right[1]), (("right",), right[1]), ("right", None), ("right", Angry()), (Angry(), right[1]),
                    ("wrong", right[1]), (0, 1), {"right": 1}] + odd_values():
            self.refuses(RIGHT, bad)
        for bad in [list(wrong), wrong[:4], wrong + (1,), ("wrong",) + (None,) * 4, ("wrong",) + (Angry(),) * 4, ("wrong",) + (Agreeable(),) * 4]:
            self.refuses(WRONG, bad)
        for bad in odd_values():
            self.refuses(RIGHT, ("right", bad), ("wrong", bad, bad, bad, bad), ("every", bad, bad, bad), ("cheapest", bad, bad, bad, bad))


class Right(Judged):
    def test_bent_in_one_thing(self):
        kinds = {True: 0, False: 0}
        for chance, program, (first, blocks, starts, table) in programs(251, 150, many_blocks=3, many_names=2, most_rows=3):
            entries = Table(program).entries
            right = is_right(program)
            for told in (entries, tuple(entries), entries[::-1], entries * 2):
                self.assertIs(Checker(program)(("right", told)), right)
            for entry in entries:
                self.refuses(program, ("right", [other for other in entries if other != entry]))
            if not right:
                continue
            for _ in range(8):
                more = (chance.choice(program.words), tuple(chance.choice(TEXTS) for _ in program.variables))
                begin = dict(zip(program.variables, more[1]))
                _, behind, fails = walked(blocks, begin, (more[0],), table)
                closed = all((word, behind) in entries + [more] for word in blocks[more[0]][1])
                self.assertIs(Checker(program)(("right", entries + [more])), closed and not fails)
                kinds[closed and not fails] += more not in entries
        self.assertGreater(min(kinds.values()), 20)

    def test_more_entries_than_needed(self):
        entries = Table(RIGHT).entries
        self.assertEqual(entries, [("p", ("",)), ("p", ("z",)), ("q", ("z",))])
        # Closed and met: the block r, that no road comes to, and others of p; closed but not met; and not closed.
        self.accepts(RIGHT, ("right", entries + [("r", ("z",))]))
        self.accepts(RIGHT, ("right", entries + [("p", ("zs",)), ("p", ("s",)), ("q", ("z",))]))
        self.refuses(RIGHT, ("right", entries + [("r", ("",))]), ("right", entries + [("q", ("s",))]), ("right", entries + [("r", ("zs",))]))
        self.accepts(RIGHT, ("right", entries + [("r", ("zs",)), ("q", ("zs",)), ("p", ("zs",))]))
        self.refuses(RIGHT, ("right", entries + [("p", ("",), 0)]), ("right", entries + [("k", ("z",))]), ("right", {one: 1 for one in entries}),
                     ("right", entries + [["p", ("",)]]), ("right", entries + [Agreeable()]), ("right", entries + [None]))

    def test_closed_but_failing(self):
        self.refuses(WRONG, ("right", Table(WRONG).entries))
        # The last row of a block counts, too.
        program = Program("p", {"p": ((("do", "a", "loadz"), LOAD, SHR), ())})
        self.refuses(program, ("right", Table(program).entries))


class Wrong(Judged):
    def test_runs_that_fail_and_others(self):
        kinds = {True: 0, False: 0}
        for chance, program, (first, blocks, starts, table) in programs(252, 150, many_blocks=3, most_rows=3):
            found = [one.road for one in verdicts(program) if one]
            for road in found[:3] + [(first,)]:
                for narrow, wide in [(2, 4), (3, 7), (30, 32)]:
                    run = bits_for(program, road, narrow=narrow, wide=wide)
                    fails = len(Play(program, road, run, narrow=narrow, wide=wide).fails()) > 0
                    self.assertIs(Checker(program)(("wrong", road, run, narrow, wide)), fails)
                    self.assertIs(fails, road in found or bool(walked(blocks, starts, road, table)[2]))
                    kinds[fails] += 1
                    bent = [part + 1 if part + 1 < 2 ** wide else 0 for part in run[1]]
                    for at in range(len(bent)):
                        other = (run[0], run[1][:at] + (bent[at],) + run[1][at + 1:])
                        fine = is_true(program, road, other, narrow=narrow, wide=wide)
                        due = fine and bool(played(blocks, starts, road, other, narrow, wide, table)[1])
                        self.assertIs(Checker(program)(("wrong", road, other, narrow, wide)), due)
        self.assertGreater(min(kinds.values()), 60)

    def test_bent_in_one_thing(self):
        kind, road, run, narrow, wide = paper_of(WRONG)
        self.assertEqual([kind, road, run, narrow, wide], ["wrong", ("p", "q"), ((6,), (6, 6)), 2, 4])
        self.accepts(WRONG, ("wrong", ("p", "p", "q"), ((0,), (6, 5, 9)), 2, 4))
        self.refuses(WRONG, ("wrong", list(road), run, 2, 4), ("wrong", ("p",), ((6,), (6,)), 2, 4), ("wrong", ("q",), ((6,), (6,)), 2, 4), ("wrong", (), ((6,), ()), 2, 4),
                     ("wrong", road, ((6,), (6,)), 2, 4), ("wrong", road, ((6,), (6, 6, 6)), 2, 4), ("wrong", road, ((), (6, 6)), 2, 4), ("wrong", road, [(6,), (6, 6)], 2, 4),
                     ("wrong", road, ((6,), [6, 6]), 2, 4), ("wrong", road, ((6,), (16, 6)), 2, 4), ("wrong", road, ((6,), (-1, 6)), 2, 4), ("wrong", road, ((6,), (True, 6)), 2, 4),
                     ("wrong", road, run, 2, 3), ("wrong", road, run, 1, 4), ("wrong", road, run, True, 4), ("wrong", road, run, 2, 33), ("wrong", road, run, 31, 33),
                     ("wrong", road, run, 2.0, 4), ("wrong", road, run, 4, 2), ("wrong", run, road, 2, 4), ("wrong", road, ((6,), (0, 6)), 2, 4),
                     # A register whose upper bits are 0 does not fail here, whatever is sure of it.
                     ("wrong", road, ((6,), (3, 6)), 2, 4))
        self.refuses(RIGHT, ("wrong", ("p", "q"), ((6,), (6, 6)), 2, 4))


class Every(Judged):
    def test_right_papers_and_others(self):
        paper = EveryRoad(ENDING, "z", "a").paper
        self.accepts(ENDING, ("every", "z", "a", paper))
        self.accepts(ENDING, ("every", "z", "a", tuple(paper)))
        for at, (point, short, old) in enumerate(paper):
            for line in [(point, 7 if short is None else None, old), (point, short, 7 if old is None else None), (point, short), [point, short, old],
                         (point, -1, old), (point, False, old), (("p", "", 9), short, old)]:
                self.refuses(ENDING, ("every", "z", "a", paper[:at] + [line] + paper[at + 1:]))
        self.refuses(ENDING, ("every", "z", "a", paper[1:]), ("every", "z", "a", paper[::-1]), ("every", "s", "a", paper), ("every", "z", "b", paper),
                     ("every", "zs", "a", paper), ("every", "z", None, paper), ("every", None, "a", paper), ("every", "z", "a", None), ("every", "z", "a", paper, 1),
                     ("every", "z", paper), ("every", "z", Agreeable(), paper), ("every", Angry(), "a", paper))

    def test_programs_of_which_none_is_made(self):
        # One from which no end can be come to, and one that is not simple.
        self.assertRaises(NoEnd, EveryRoad, WRONG, "z", "a")
        self.refuses(WRONG, ("every", "z", "a", [(("p", "", 0), None, None)]), ("every", "z", "a", []))
        bent = Program("p", {"p": ((("widen", "s", "a"), SHR), ())})
        self.assertRaises(NotSimple, EveryRoad, bent, "z", "a")
        self.refuses(bent, ("every", "z", "a", [(("p", "", at), 0, 0) for at in range(3)]))

    def test_beside_every_road(self):
        chance = random.Random(253)
        many = 0
        for index in range(200):
            mark = "zs"[index % 2]
            first, blocks, starts = random_fit_program(chance, mark, many_blocks=3, many_names=2)
            program = Program(first, blocks, starts=starts)
            for variable in program.variables:
                try:
                    paper = EveryRoad(program, mark, variable).paper
                except (NoEnd, NotSimple):
                    continue
                self.accepts(program, ("every", mark, variable, paper))
                many += 1
        self.assertGreater(many, 60)


class Cheap(Judged):
    def test_right_papers_and_others(self):
        often = {("p", "p"): 9, ("p", "q"): 2, ("", "p"): 3}
        best = Cheapest(ENDING, "z", often)
        puts, flow = best.puts, best.flow
        self.assertEqual([puts, flow], [[(("p", "q", 0), "a")], [(2, ((("p", "", 1), "a"), (("q", "", 0), "a")))]])
        for paper in [("cheapest", "z", often, puts, flow), ("cheapest", "z", often, tuple(puts), tuple(flow)),
                      ("cheapest", "z", often, [(("q", "", 0), "a")], flow), ("cheapest", "z", often, puts, [(1, flow[0][1])] * 2)]:
            self.accepts(ENDING, paper)
        path = flow[0][1]
        self.refuses(ENDING, ("cheapest", "z", often, [], flow), ("cheapest", "z", often, [], []), ("cheapest", "z", often, puts, []),
                     ("cheapest", "z", often, puts, [(1, path)]), ("cheapest", "z", often, puts, [(3, path)]), ("cheapest", "z", often, puts, [(2, path[1:])]),
                     ("cheapest", "z", often, puts, [(2, path[:1])]), ("cheapest", "z", often, puts + puts, flow), ("cheapest", "z", often, [(("p", "", 1), "a")], flow),
                     ("cheapest", "z", often, puts + [(("p", "p", 0), "a")], flow), ("cheapest", "z", often, [(("p", "q", 0), "b")], flow),
                     ("cheapest", "s", often, puts, flow), ("cheapest", "", often, puts, flow), ("cheapest", "z", None, puts, flow), ("cheapest", "z", {}, puts, flow),
                     ("cheapest", "z", {**often, ("p", "q"): 3}, puts, flow), ("cheapest", "z", {**often, ("q", "p"): 3}, puts, flow),
                     ("cheapest", "z", {**often, ("p", "p"): True}, puts, flow), ("cheapest", "z", often, flow, puts), ("cheapest", "z", puts, flow),
                     ("cheapest", "z", often, puts, flow, 0), ("cheapest", "z", often, None, flow), ("cheapest", "z", often, puts, None), ("cheapest", None, often, puts, flow),
                     ("cheapest", "z", [], puts, flow), ("cheapest", "z", often, [(("p", "q", 0), "a"), None], flow), ("cheapest", "z", often, puts, [(2, list(path))]),
                     ("cheapest", "z", often, puts, [(True, path), (1, path)]))
        self.accepts(ENDING, ("cheapest", "z", None, puts, [(1, path)]))
        self.accepts(ENDING, ("cheapest", "z", {}, puts, [(1, path)]))

    def test_programs_that_are_not_simple(self):
        bent = Program("p", {"p": ((("widen", "s", "a"),), ())})
        self.refuses(bent, ("cheapest", "z", None, [], []))
        self.accepts(bent, ("cheapest", "s", None, [], []))

    def test_beside_the_cheapest(self):
        chance = random.Random(254)
        kinds = set()
        for index in range(200):
            mark = "zs"[index % 2]
            told = random_fit_table(chance, mark)
            first, blocks, starts = random_fit_program(chance, mark, told, many_blocks=3, many_names=2)
            program = Program(first, blocks, starts=starts, table=operations_of(told))
            often = {go: chance.choice([0, 1, 2, 1000000]) for go in goes_of(program) if chance.random() < 0.5}
            best = Cheapest(program, mark, often)
            self.accepts(program, ("cheapest", mark, often, best.puts, best.flow))
            # Papers of one thing do not show another one.
            self.refuses(program, ("right", best.flow), ("every", mark, often, best.puts))
            if best.cost:
                dear = [put for put in best.puts if cost_of(program, [put], often)]
                self.refuses(program, ("cheapest", mark, often, best.puts, best.flow[1:]), ("cheapest", mark, often, best.puts, best.flow * 2),
                             ("cheapest", mark, often, [put for put in best.puts if put != dear[-1]], best.flow))
            kinds.add(best.cost > 0)
        self.assertEqual(kinds, {True, False})

    def test_the_worst_row_is_in_the_paper(self):
        found = worst(WRONG)
        self.assertEqual(paper_of(WRONG)[1], found.road)


if __name__ == "__main__":
    unittest.main()
