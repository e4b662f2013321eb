"""Point [16]: where one variable is widened so that no road has more than it must."""

import itertools
import random
import unittest

from signskept.errors import BadMark, BadProgram, NoEnd, NoVariable, NotSimple
from signskept.everyroad import EveryRoad, is_paper
from signskept.operations import Operation
from signskept.programs import Program
from signskept.puts import count_on, placed, serves
from signskept.spots import points
from signskept.tables import is_right
from tests.helpers import Agreeable, Angry, Case, odd_values
from tests.plain import (all_roads, all_spots, names_of, random_fit_program, random_fit_table, random_program,
                         with_table)

LOAD, SHR = ("do", "a", "load"), ("do", None, "shr", "a")
RING = {"p": ((LOAD,), ("q", "t")), "q": ((SHR,), ("q", "u")), "t": ((), ("u", "e")), "u": ((SHR,), ()), "e": ((), ())}


class Facts:
    """What the rows of a program do with a variable, by tries of its operations; and roads through it."""

    def __init__(self, program, first, blocks, starts, mark, variable, table):
        self.program, self.first, self.blocks, self.table = program, first, blocks, table
        self.mark, self.variable = mark, variable
        self.words = sorted({word for road in all_roads(first, blocks, len(blocks)) for word in road})
        self.points = [(word, "", at) for word in self.words for at in range(len(blocks[word][0]) + 1)]
        self.lost = mark not in starts.get(variable, "")

    def wants(self, row):
        if row[0] != "do":
            return False
        needs = self.program.operation(row[2]).needs
        need = [wants for wants in needs if set("".join(wants)) <= {self.mark}][0]
        return any(want and name == self.variable for name, want in zip(row[3:], need))

    def gives(self, row, sure):
        """Whether the row makes the mark sure if it is sure of these variables alone."""
        if row[0] == "widen":
            return True
        if row[0] == "move":
            return row[2] in sure
        rule = self.table[row[2]][2 if self.mark == "z" else 3]
        return rule(*[{"z", "s"} if name in sure else set() for name in row[3:]])

    def changes(self, row):
        return (row[2] if row[0] == "widen" else row[1]) == self.variable

    def spoils(self, row):
        return self.changes(row) and not self.gives(row, self.program.variables)

    def makes(self, row):
        return self.changes(row) and self.gives(row, ())

    def mixes(self, row):
        """Whether the mark of the variable behind the row hangs on another variable."""
        others = [name for name in self.program.variables if name != self.variable]
        return self.changes(row) and not self.spoils(row) and any(
            not self.gives(row, [name for name in self.program.variables if name != other]) for other in others)

    def ends(self, word):
        """Whether a block without goes can be come to."""
        return any(not self.blocks[road[-1]][1] for road in all_roads(word, self.blocks, len(self.blocks)))

    def row_at(self, point):
        rows = self.blocks[point[0]][0]
        return rows[point[2]] if point[2] < len(rows) else None

    def next_points(self, point):
        if self.row_at(point) is not None:
            return [point[:2] + (point[2] + 1,)]
        return [(word, "", 0) for word in self.blocks[point[0]][1]]

    def points_ahead(self, point):
        if point[2] > 0:
            return [point[:2] + (point[2] - 1,)]
        return [(word, "", len(self.blocks[word][0])) for word in self.words if point[0] in self.blocks[word][1]]

    def certain_rule(self, point, certain):
        row = self.row_at(point)
        if row is None:
            return bool(self.next_points(point)) and set(self.next_points(point)) <= certain
        return self.wants(row) or not self.spoils(row) and not self.makes(row) and set(self.next_points(point)) <= certain

    def already_rule(self, point, already):
        if point[2] == 0:
            return set(self.points_ahead(point)) <= already and not (point[0] == self.first and self.lost)
        row = self.row_at(self.points_ahead(point)[0])
        if self.wants(row) and not self.spoils(row) or self.makes(row):
            return True
        return not self.wants(row) and not self.spoils(row) and set(self.points_ahead(point)) <= already

    def largest(self, keeps):
        """The largest set that keeps a rule: points that break it are taken away until there are none."""
        left = set(self.points)
        while True:
            gone = {point for point in left if not keeps(point, left)}
            if not gone:
                return left
            left -= gone

    def union(self, keeps):
        """All points that are in some set that keeps a rule: all sets are tried."""
        found = set()
        for many in range(len(self.points) + 1):
            for some in itertools.combinations(self.points, many):
                if all(keeps(point, set(some)) for point in some):
                    found |= set(some)
        return found

    def free(self, row):
        return row is None or not (self.wants(row) or self.spoils(row) or self.makes(row))

    def fewest(self, due, steps, passes):
        """For each point the fewest steps to one where 0 is due, getting better until nothing does."""
        best = {point: 0 if due(point) else None for point in self.points}
        changed = True
        while changed:
            changed = False
            for point in self.points:
                for other in steps(point):
                    if passes(point, other) and best[other] is not None and (
                            best[point] is None or best[other] + 1 < best[point]):
                        best[point] = best[other] + 1
                        changed = True
        return best

    def short(self):
        return self.fewest(self.short_zero, self.next_points, lambda point, other: self.free(self.row_at(point)))

    def old(self):
        return self.fewest(self.old_zero, self.points_ahead, lambda point, other: self.free(self.row_at(other)))

    def short_zero(self, point):
        row = self.row_at(point)
        if row is None:
            return not self.next_points(point)
        return (self.spoils(row) or self.makes(row)) and not self.wants(row)

    def old_zero(self, point):
        if point[2] == 0:
            return point[0] == self.first and self.lost
        return self.spoils(self.row_at(self.points_ahead(point)[0]))

    def puts(self, certain, already):
        found = []
        for point in self.points:
            row = self.row_at(point)
            if row is not None and self.spoils(row) and self.next_points(point)[0] in certain:
                found.append(self.next_points(point)[0])
            for other in self.next_points(point) if row is None else []:
                if other in certain and point not in certain and point not in already:
                    found.append((point[0], other[0], 0))
        if self.lost and (self.first, "", 0) in certain:
            found.append(("", self.first, 0))
        return sorted((spot, self.variable) for spot in found)

    def accepts(self, paper):
        """Whether numbers agree place by place."""
        short = {line[0]: line[1] for line in paper}
        old = {line[0]: line[2] for line in paper}
        certain = {point for point in self.points if short[point] is None}
        already = {point for point in self.points if old[point] is None}
        for point in self.points:
            if point in certain:
                good = self.certain_rule(point, certain)
            else:
                good = short[point] == 0 and self.short_zero(point) or self.free(self.row_at(point)) and any(
                    short[other] is not None and short[other] < short[point] for other in self.next_points(point))
            if point in already:
                good = good and self.already_rule(point, already)
            else:
                good = good and (old[point] == 0 and self.old_zero(point) or any(
                    self.free(self.row_at(other)) and old[other] is not None and old[other] < old[point]
                    for other in self.points_ahead(point)))
            if not good:
                return False
        return True


def cases(seed, many, taken=True, **named):
    """Programs and variables of which an EveryRoad is made, with their Facts; or those of which none is made."""
    chance = random.Random(seed)
    while many:
        mark = chance.choice("zs")
        told = random_fit_table(chance, mark)
        first, blocks, starts = random_fit_program(chance, mark, told, **named)
        operations = {word: Operation(parts[0], parts[1], z=parts[2], s=parts[3]) for word, parts in told.items()}
        program = Program(first, blocks, starts=starts, table=operations)
        for variable in names_of(blocks, starts):
            facts = Facts(program, first, blocks, starts, mark, variable, with_table(told))
            rows = [row for rows, _ in blocks.values() for row in rows]
            fine = not any(facts.mixes(row) for row in rows) and all(facts.ends(word) for word in facts.words)
            if fine == taken and many:
                many -= 1
                yield chance, program, mark, variable, facts


class Sets(Case):
    def test_beside_the_largest_sets(self):
        kinds = set()
        for _, program, mark, variable, facts in cases(160, 250):
            every = EveryRoad(program, mark, variable)
            certain, already = facts.largest(facts.certain_rule), facts.largest(facts.already_rule)
            self.assertEqual([every.certain, every.already], [sorted(certain), sorted(already)])
            kinds.add((bool(certain), bool(already)))
        self.assertLessEqual({(False, False), (False, True), (True, True)}, kinds)

    def test_beside_all_sets(self):
        for _, program, mark, variable, facts in cases(161, 60, many_blocks=2, most_rows=3):
            if len(facts.points) <= 8:
                every = EveryRoad(program, mark, variable)
                self.assertEqual(every.certain, sorted(facts.union(facts.certain_rule)))
                self.assertEqual(every.already, sorted(facts.union(facts.already_rule)))

    def test_certain_beside_all_roads_that_end(self):
        for _, program, mark, variable, facts in cases(162, 120, many_blocks=3):
            due = []
            for point in facts.points:
                # A road without a want needs to come to no block twice, but for the first one.
                roads = [road for road in all_roads(point[0], facts.blocks, len(facts.blocks) + 1)
                         if not facts.blocks[road[-1]][1]]
                if all(self.wants_first(facts, road, point[2]) for road in roads):
                    due.append(point)
            self.assertEqual(EveryRoad(program, mark, variable).certain, due)

    def wants_first(self, facts, road, at):
        """Whether a want is come to on a road, from a point in its first block on, and no spoil or make before."""
        rows = [row for word in road for row in facts.blocks[word][0]][at:]
        for row in rows:
            if facts.wants(row) or facts.spoils(row) or facts.makes(row):
                return facts.wants(row)
        return False

    def test_already_beside_all_roads(self):
        for _, program, mark, variable, facts in cases(163, 120, many_blocks=3):
            missing = set()
            for road in all_roads(facts.first, facts.blocks, 2 * len(facts.blocks)):
                sure = not facts.lost
                for word in road:
                    for at, row in enumerate(facts.blocks[word][0] + (None,)):
                        if not sure:
                            missing.add((word, "", at))
                        if row is not None and not facts.free(row):
                            sure = not facts.spoils(row)
            self.assertEqual(EveryRoad(program, mark, variable).already, sorted(set(facts.points) - missing))

    def test_by_hand(self):
        every = EveryRoad(program=Program("p", RING), mark="z", variable="a")
        self.assertEqual(every.certain, [("q", "", 0), ("q", "", 1), ("u", "", 0)])
        self.assertEqual(every.already, [("q", "", 1), ("u", "", 1)])
        # On the way from p to u by t nothing is certain ahead of the go to u.
        self.assertEqual(every.puts, [(("p", "q", 0), "a"), (("t", "u", 0), "a")])
        self.assertEqual(every.paper, [
            (("e", "", 0), 0, 2), (("p", "", 0), 0, 0), (("p", "", 1), 2, 0), (("q", "", 0), None, 1),
            (("q", "", 1), None, None), (("t", "", 0), 1, 1), (("u", "", 0), None, 2), (("u", "", 1), 0, None)])

    def test_a_row_that_wants_and_spoils(self):
        rows = (("do", "a", "sdiv", "a", "b"), ("do", None, "sar", "a"))
        every = EveryRoad(Program("p", {"p": (rows, ())}, starts={"b": "s"}), "s", "a")
        self.assertEqual([every.certain, every.already], [[("p", "", 0), ("p", "", 1)], [("p", "", 2)]])
        self.assertEqual(every.puts, [(("", "p", 0), "a"), (("p", "", 1), "a")])
        self.assertEqual(every.paper, [(("p", "", 0), None, 0), (("p", "", 1), None, 0), (("p", "", 2), 0, None)])

    def test_a_row_that_keeps_its_own_variable(self):
        rows = (("do", "a", "xor", "a", "a"), ("move", "a", "a"), SHR)
        every = EveryRoad(Program("p", {"p": (rows, ())}), "z", "a")
        self.assertEqual(every.certain, [("p", "", 0), ("p", "", 1), ("p", "", 2)])
        self.assertEqual([every.already, every.puts], [[("p", "", 3)], [(("", "p", 0), "a")]])

    def test_a_start_with_the_mark(self):
        program = Program("p", {"p": ((SHR,), ())}, starts={"a": "zs"})
        every = EveryRoad(program, "z", "a")
        self.assertEqual([every.certain, every.already, every.puts], [[("p", "", 0)], [("p", "", 0), ("p", "", 1)], []])
        self.assertEqual(every.paper, [(("p", "", 0), None, None), (("p", "", 1), 0, None)])

    def test_blocks_that_no_road_comes_to(self):
        blocks = {"p": ((SHR,), ()), "r": ((LOAD,), ("p", "s")), "s": ((), ("s",))}
        every = EveryRoad(Program("p", blocks, starts={"a": "z"}), "z", "a")
        self.assertEqual([every.already, every.puts], [[("p", "", 0), ("p", "", 1)], []])

    def test_nothing_wanted(self):
        program = Program("p", {"p": ((), ("p", "q")), "q": ((), ())}, starts={"a": ""})
        every = EveryRoad(program, "s", "a")
        self.assertEqual([every.certain, every.already, every.puts], [[], [], []])
        self.assertEqual(every.paper, [(("p", "", 0), 1, 0), (("q", "", 0), 0, 1)])

    def test_lists_are_new_each_time(self):
        every = EveryRoad(Program("p", RING), "z", "a")
        for name in ("certain", "already", "puts", "paper"):
            due = list(getattr(every, name))
            getattr(every, name).clear()
            self.assertEqual(getattr(every, name), due)
            self.assertRaises(AttributeError, setattr, every, name, [])

    def test_it_is_equal_to_nothing_of_another_kind(self):
        every = EveryRoad(Program("p", RING), "z", "a")
        for value in [every.paper, every.puts, Program("p", RING), None, "a"]:
            self.assertFalse(every == value)


class Puts(Case):
    def test_as_the_rule_says(self):
        kinds = set()
        for _, program, mark, variable, facts in cases(164, 250):
            every = EveryRoad(program, mark, variable)
            due = facts.puts(facts.largest(facts.certain_rule), facts.largest(facts.already_rule))
            self.assertEqual(every.puts, due)
            kinds.update("point" if spot[1] == "" else "beginning" if spot[0] == "" else "go" for spot, _ in due)
        self.assertEqual(kinds, {"point", "beginning", "go"})

    def test_they_serve(self):
        for _, program, mark, variable, facts in cases(165, 150):
            every = EveryRoad(program, mark, variable)
            others = [(point, name) for point in points(program) for name in program.variables if name != variable]
            self.assertIs(serves(program, mark, every.puts + others), True)
            if len(program.variables) == 1:
                self.assertIs(is_right(placed(program, mark, every.puts)), True)

    def test_on_no_road_more_than_others(self):
        compared = less = 0
        for _, program, mark, variable, facts in cases(166, 150, many_blocks=3, many_names=2, most_rows=3):
            every = EveryRoad(program, mark, variable)
            spots = [spot for spot in all_spots(facts.first, facts.blocks)
                     if (spot if spot[1] == "" else (spot[1], "", 0)) in every.certain]
            if not 1 <= len(spots) <= 7:
                continue
            others = [(point, name) for point in points(program) for name in program.variables if name != variable]
            roads = [road for road in all_roads(facts.first, facts.blocks, 5) if not facts.blocks[road[-1]][1]]
            due = [count_on(program, every.puts, road) for road in roads]
            for many in range(len(spots) + 1):
                for some in itertools.combinations(spots, many):
                    puts = [(spot, variable) for spot in some]
                    if serves(program, mark, puts + others):
                        found = [count_on(program, puts, road) for road in roads]
                        self.assertTrue(all(one <= other for one, other in zip(due, found)))
                        compared += 1
                        less += due != found
        self.assertGreater(compared, 300)
        self.assertGreater(less, 100)


class Papers(Case):
    def test_beside_another_search(self):
        for _, program, mark, variable, facts in cases(167, 200):
            paper = EveryRoad(program, mark, variable).paper
            short, old = facts.short(), facts.old()
            self.assertEqual(paper, [(point, short[point], old[point]) for point in facts.points])
            self.assertTrue(facts.accepts(paper))
            for told in (paper, tuple(paper)):
                self.assertIs(is_paper(program, mark, variable, told), True)

    def test_numbers_changed(self):
        many = {True: 0, False: 0}
        for chance, program, mark, variable, facts in cases(168, 150):
            paper = EveryRoad(program, mark, variable).paper
            for at in range(len(paper)):
                for index in (1, 2):
                    for number in (None, 0, 1, 2, 5, chance.randint(0, 9), 10 ** 39):
                        line = tuple(number if part == index else paper[at][part] for part in range(3))
                        other = paper[:at] + [line] + paper[at + 1:]
                        due = facts.accepts(other)
                        self.assertIs(is_paper(program, mark, variable, other), due)
                        many[due and other != paper] += 1
            # Several numbers at once, most of which are told by their own author.
            for _ in range(5):
                other = [tuple(None if part is None else part * 3 + chance.randint(0, 1) * (part > 0) for part in line[1:])
                         for line in paper]
                other = [(line[0],) + numbers for line, numbers in zip(paper, other)]
                due = facts.accepts(other)
                self.assertIs(is_paper(program, mark, variable, other), due)
                many[due] += 1
        self.assertGreater(min(many.values()), 200)

    def test_none_only_in_the_two_sets(self):
        # All papers of small numbers: what is accepted has None just in the two sets.
        for _, program, mark, variable, facts in cases(169, 25, many_blocks=2, many_names=1, most_rows=1):
            every = EveryRoad(program, mark, variable)
            if len(facts.points) > 3:
                continue
            accepted = 0
            for numbers in itertools.product((None, 0, 1, 2), repeat=2 * len(facts.points)):
                paper = list(zip(facts.points, numbers[::2], numbers[1::2]))
                if is_paper(program, mark, variable, paper):
                    accepted += 1
                    self.assertEqual([point for point, short, _ in paper if short is None], every.certain)
                    self.assertEqual([point for point, _, old in paper if old is None], every.already)
            self.assertGreater(accepted, 0)

    def test_zero_that_is_due_and_another_number(self):
        # At the beginning 0 is due, and a ring leads back to it.
        program = Program("p", {"p": ((), ("p", "q")), "q": ((LOAD,), ("p", "t")), "t": ((), ())})
        paper = EveryRoad(program, "z", "a").paper
        self.assertEqual(paper, [(("p", "", 0), 1, 0), (("q", "", 0), 0, 1), (("q", "", 1), 1, 0), (("t", "", 0), 0, 1)])
        for first, due in [(0, True), (1, True), (5, True), (None, False)]:
            # The number of q behind the load is 0, which is less than any other one.
            other = [(("p", "", 0), 1, first), (("q", "", 0), 0, 6), (("q", "", 1), 1, 0), (("t", "", 0), 0, 1)]
            self.assertIs(is_paper(program, "z", "a", other), due)
        # Behind the load, and ahead of it, no other number than 0 is right.
        for at, line in [(2, (("q", "", 1), 1, 1)), (1, (("q", "", 0), 2, 1)), (3, (("t", "", 0), 1, 1))]:
            self.assertIs(is_paper(program, "z", "a", paper[:at] + [line] + paper[at + 1:]), False)
        # Without a lesser one next to it, no other number is right at the beginning either.
        line = Program("p", {"p": ((), ("q",)), "q": ((), ())}, starts={"a": ""})
        self.assertIs(is_paper(line, "z", "a", [(("p", "", 0), 1, 0), (("q", "", 0), 0, 1)]), True)
        self.assertIs(is_paper(line, "z", "a", [(("p", "", 0), 1, 1), (("q", "", 0), 0, 2)]), False)

    def test_left_out_and_more(self):
        for _, program, mark, variable, facts in cases(170, 30):
            paper = EveryRoad(program, mark, variable).paper
            for at in range(len(paper)):
                for other in (paper[:at] + paper[at + 1:], paper[:at] + [paper[at]] + paper[at:], paper[:at] + [None] + paper[at:]):
                    self.assertIs(is_paper(program, mark, variable, other), False)
            self.assertIs(is_paper(program, mark, variable, paper[::-1]), len(paper) == 1)
            self.assertIs(is_paper(program, mark, variable, []), False)

    def test_values_of_another_form(self):
        program = Program("p", {"p": ((LOAD, SHR), ())})
        paper = EveryRoad(program, "z", "a").paper
        self.assertEqual(paper, [(("p", "", 0), 0, 0), (("p", "", 1), None, 0), (("p", "", 2), 0, None)])
        for bad in [(("p", "", 0), False, 0), (("p", "", 0), 0, False), (("p", "", False), 0, 0), (("p", "", 0), -1, 0),
                    (("p", "", 0), 0), (("p", "", 0), 0, 0, 0), [("p", "", 0), 0, 0], (["p", "", 0], 0, 0), (("p", 0), 0, 0),
                    (("p", "", 0), 0.0, 0), (("p", "", 0), "0", 0), (("p", "", 0), (), 0), (("p", "", 0), Agreeable(), 0),
                    (("p", "", 0), Angry(), 0), (Agreeable(), 0, 0), (Angry(), 0, 0), (("p", Agreeable(), 0), 0, 0),
                    ((Angry(), "", 0), 0, 0), (("p", "p", 0), 0, 0), (("p", Angry(), 0), 0, 0), (("p", "", Angry()), 0, 0), (("q", "", 0), 0, 0), (("p", "", 1), 0, 0)] + odd_values():
            self.assertIs(is_paper(program, "z", "a", [bad] + paper[1:]), False)
        last = paper[:2]
        for bad in [(("p", "", 2), 0, False), (("p", "", True), 0, None), (("p", "", 2), None, None)]:
            self.assertIs(is_paper(program, "z", "a", last + [bad]), False)
        self.assertIs(is_paper(program, "z", "a", [paper[0], (("p", "", True), None, 0), paper[2]]), False)
        for bad in [{line: 1 for line in paper}, set(paper), iter(paper), paper[0], EveryRoad(program, "z", "a"), "ppp"] + odd_values():
            self.assertIs(is_paper(program, "z", "a", bad), False)
        self.assertIs(is_paper(program=program, mark="z", variable="a", paper=paper), True)
        self.assertEqual(len(paper), 3)


class Refused(Case):
    def calls(self):
        return [EveryRoad, lambda *told: is_paper(*told, None)]

    def test_beside_the_facts(self):
        kinds = set()
        for _, program, mark, variable, facts in cases(171, 120, taken=False):
            wrong = [place for place in program.places() if facts.mixes(program[place])]
            for call in self.calls():
                with self.assertRaises((NotSimple, NoEnd)) as caught:
                    call(program, mark, variable)
                if wrong:
                    due = (NotSimple, wrong[0])
                else:
                    due = (NoEnd, [word for word in facts.words if not facts.ends(word)][0])
                self.assertEqual((type(caught.exception), caught.exception.value), due)
                kinds.add(due[0])
        self.assertEqual(len(kinds), 2)

    def test_programs_of_all_kinds(self):
        # With rows that are not simple, the least place counts, whatever its row breaks.
        chance = random.Random(172)
        firsts = set()
        for _ in range(150):
            first, blocks, starts = random_program(chance, most_rows=3)
            program = Program(first, blocks, starts=starts)
            for variable in program.variables:
                for mark in "zs":
                    facts = Facts(program, first, blocks, starts, mark, variable, with_table({}))
                    unfit = [place for place in program.places() if not self.fits(program, program[place], mark)]
                    mixing = [place for place in program.places() if place not in unfit and facts.mixes(program[place])]
                    if unfit + mixing:
                        for call in self.calls():
                            with self.assertRaises(NotSimple) as caught:
                                call(program, mark, variable)
                            self.assertEqual(caught.exception.value, min(unfit + mixing))
                        firsts.add(min(unfit + mixing) in unfit)
        self.assertEqual(firsts, {True, False})

    def fits(self, program, row, mark):
        if row[0] != "do":
            return row[0] == "move" or row[1] == mark
        operation = program.operation(row[2])
        gives = operation.z if mark == "z" else operation.s
        return any(set("".join(wants)) <= {mark} for wants in operation.needs) and len(gives) < 2 and (
            set("".join(sum(gives, ()))) <= {mark})

    def test_by_hand(self):
        mixed = Program("p", {"p": ((LOAD, ("move", "b", "a")), ("p",)), "a": ((("do", "a", "or", "a", "b"),), ())})
        for call in self.calls():
            for variable, place in (("a", ("a", 0)), ("b", ("p", 1))):
                with self.assertRaises(NotSimple) as caught:
                    call(mixed, "z", variable)
                self.assertEqual(caught.exception.value, place)
        # Rings without an end, one of which no road comes to.
        ends = Program("p", {"p": ((), ("q", "r")), "q": ((), ()), "r": ((LOAD,), ("s",)), "s": ((), ("r", "s")), "a": ((), ("a",))})
        for call in self.calls():
            with self.assertRaises(NoEnd) as caught:
                call(ends, "z", "a")
            self.assertEqual(caught.exception.value, "r")
        only = Program("p", {"p": ((LOAD,), ("p",))})
        self.refused(NoEnd, "p", EveryRoad, only, "z", "a")

    def test_in_the_told_order(self):
        program = Program("p", {"p": ((("do", "a", "and", "a", "b"),), ("p",))})
        for call in self.calls():
            for bad in ["p", Program, RING] + odd_values():
                self.refused(BadProgram, bad, call, bad, None, None)
            for bad in ["", "zs", "a"] + odd_values():
                self.refused(BadMark, bad, call, program, bad, None)
            for bad in ["", "c", "ab", "p", ("a",), Angry(), Agreeable()] + odd_values():
                self.refused(NoVariable, bad, call, program, "z", bad)
            with self.assertRaises(NotSimple) as caught:
                call(program, "z", "b")
            self.assertEqual(caught.exception.value, ("p", 0))
            self.assertRaises(NoEnd, call, program, "s", "b")


if __name__ == "__main__":
    unittest.main()
