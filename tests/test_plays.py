"""Point [12]: runs of bits."""

import random
import unittest

from signskept.errors import BadNumber, BadProgram, BadRoad, BadRun
from signskept.known import narrowly, reckon
from signskept.operations import Operation
from signskept.plays import Play, bits_for, is_true
from signskept.programs import Program
from signskept.roads import Walk
from signskept.tables import verdicts
from signskept.wides import Wide
from tests.helpers import Agreeable, Angry, Case, odd_values
from tests.plain import (TEXTS, all_roads, names_of, played, random_program, random_run, random_table, text_of,
                         true_marks, walked, with_table)

SIZES = [(2, 4), (2, 32), (30, 32), (3, 5), (4, 9)]
WRONG_SIZES = [(1, 4, 1), (31, 32, 31), (0, 9, 0), ("2", 4, "2"), (2, 3, 3), (2, 33, 33), (30, 31, 31), (5, 6, 6),
               (2, "4", "4"), (1, 1, 1)]


def cases(seed, many, most=4, **named):
    """Programs with tables, and some roads of each, as tuples of all that a test needs of them."""
    chance = random.Random(seed)
    for _ in range(many):
        told = random_table(chance)
        table = with_table(told)
        first, blocks, starts = random_program(chance, table=table, **named)
        operations = {word: Operation(parts[0], parts[1], z=parts[2], s=parts[3]) for word, parts in told.items()}
        program = Program(first, blocks, starts=starts, table=operations)
        found = all_roads(first, blocks, most)
        for road in chance.sample(found, min(4, len(found))):
            yield chance, program, blocks, starts, road, table


def judged(program, road, run, sizes):
    return is_true(program, road, run, narrow=sizes[0], wide=sizes[1])


class BitsFor(Case):
    def test_just_what_is_sure_is_true(self):
        seen = set()
        for chance, program, blocks, starts, road, table in cases(120, 80):
            steps, behind, fails = walked(blocks, starts, road, table)
            due = [dresses for _, dresses in steps] + [behind]
            for sizes in SIZES:
                run = bits_for(program, road, narrow=sizes[0], wide=sizes[1])
                self.assertIs(judged(program, road, run, sizes), True)
                rows, failed = played(blocks, starts, road, run, *sizes, table)
                found = [tuple(text_of(true_marks(row[name], *sizes)) for name in sorted(row)) for row in rows]
                self.assertEqual([found, failed], [due, fails])
                play = Play(program, road, run, narrow=sizes[0], wide=sizes[1])
                self.assertEqual([play.dresses(at) for at in range(len(play) + 1)], due)
                self.assertEqual(play.fails(), Walk(program, road).fails())
                self.assertEqual(bits_for(program, road, narrow=sizes[0], wide=sizes[1]), run)
            seen.update(text for dresses in due for text in dresses)
        self.assertEqual(seen, set(TEXTS))

    def test_a_row_that_can_fail_fails_by_its_bits(self):
        many = 0
        for _, program, _, _, _, _ in cases(121, 30):
            for verdict in verdicts(program):
                if verdict:
                    run = bits_for(program, verdict.road, narrow=2, wide=4)
                    play = Play(program, verdict.road, run, narrow=2, wide=4)
                    self.assertIn(verdict.many, play.fails())
                    many += 1
        self.assertGreater(many, 20)

    def test_a_right_program_has_no_run_that_fails(self):
        many = 0
        for chance, program, blocks, starts, road, table in cases(122, 80, most_rows=3):
            if not any(list(verdicts(program))):
                for _ in range(3):
                    run = random_run(chance, blocks, starts, road, (2, 4), table)
                    self.assertEqual(Play(program, road, run, narrow=2, wide=4).fails(), [])
                    many += 1
        self.assertGreater(many, 20)

    def test_by_hand(self):
        rows = (("do", None, "load"), ("do", "b", "loads"), ("widen", "z", "b"), ("do", "a", "one"), ("move", "b", "a"))
        program = Program("p", {"p": (rows, ())}, starts={"a": "z"})
        run = bits_for(program=program, road=("p",), narrow=3, wide=6)
        self.assertEqual(run, ((4, 12), (12, 60, 0)))
        self.assertEqual(Play(program, ("p",), run, narrow=3, wide=6).dresses(3), ("z", "z"))

    def test_a_long_road(self):
        rows = (("do", "a", "add", "a", "b"), ("widen", "s", "b"), ("do", "b", "not", "b"))
        program = Program("p", {"p": (rows, ("p",))}, starts={"b": "z"})
        road = ("p",) * 300
        run = bits_for(program, road, narrow=30, wide=32)
        self.assertEqual(len(run[1]), 600)
        self.assertIs(is_true(program, road, run, narrow=30, wide=32), True)
        self.assertEqual(len(Play(program, road, run, narrow=30, wide=32)), 900)

    def test_nothing_at_all(self):
        program = Program("p", {"p": ((), ())})
        self.assertEqual(bits_for(program, ("p",), narrow=2, wide=4), ((), ()))
        play = Play(program, ("p",), ((), ()), narrow=2, wide=4)
        self.assertEqual([len(play), play.wides(0), play.dresses(0), play.fails()], [0, [], (), []])


class IsTrue(Case):
    def test_runs_of_any_author(self):
        fails = set()
        for chance, program, blocks, starts, road, table in cases(123, 80):
            for sizes in ((2, 4), (3, 5)):
                run = random_run(chance, blocks, starts, road, sizes, table)
                self.assertIs(judged(program, road, run, sizes), True)
                _, failed = played(blocks, starts, road, run, *sizes, table)
                self.assertEqual(Play(program, road, run, narrow=sizes[0], wide=sizes[1]).fails(), failed)
                fails.add(failed == walked(blocks, starts, road, table)[2])
        # By bits of which more is true than what is sure, fewer needs fail.
        self.assertEqual(fails, {True, False})

    def test_one_number_changed(self):
        found = {True: 0, False: 0}
        for chance, program, blocks, starts, road, table in cases(124, 60):
            run = random_run(chance, blocks, starts, road, (2, 4), table)
            for part in (0, 1):
                for at in range(len(run[part])):
                    for bits in chance.sample(range(-1, 18), 4):
                        row = run[part][:at] + (bits,) + run[part][at + 1:]
                        other = (row, run[1]) if part == 0 else (run[0], row)
                        due = played(blocks, starts, road, other, 2, 4, table) is not None
                        self.assertIs(judged(program, road, other, (2, 4)), due)
                        found[due] += 1
                        if not due:
                            self.refused(BadRun, other, Play, program, road, other, narrow=2, wide=4)
        self.assertGreater(min(found.values()), 200)

    def test_numbers_left_out_or_more(self):
        for chance, program, blocks, starts, road, table in cases(125, 60):
            run = random_run(chance, blocks, starts, road, (2, 4), table)
            for begins, answers in [(run[0] + (0,), run[1]), (run[0], run[1] + (0,)), ((0,) + run[0], run[1]),
                                    (run[0][1:] if run[0] else (0,), run[1]), (run[0], run[1][1:] if run[1] else (0,)),
                                    (run[0], run[1][:-1] if run[1] else (0, 0))]:
                self.assertIs(judged(program, road, (begins, answers), (2, 4)), False)

    def test_the_greatest_numbers(self):
        program = Program("p", {"p": ((("do", "a", "load"),), ())})
        for sizes in SIZES:
            most = 2 ** sizes[1] - 1
            self.assertIs(judged(program, ("p",), ((most,), (most,)), sizes), True)
            for bad in [((most + 1,), (most,)), ((most,), (most + 1,)), ((-1,), (0,)), ((0,), (-1,))]:
                self.assertIs(judged(program, ("p",), bad, sizes), False)

    def test_marks_of_the_bits_and_not_of_the_table(self):
        # Nothing is sure of a; but where its bits have the mark z, shr must answer with both marks.
        program = Program("p", {"p": ((("do", "a", "load"), ("do", "b", "shr", "a")), ())})
        for begins, answers, due in [((0, 0), (3, 15), False), ((0, 0), (3, 3), False), ((0, 0), (3, 1), True), ((0, 0), (7, 15), True),
                                     ((9, 9), (14, 5), True), ((9, 9), (2, 4), False)]:
            self.assertIs(judged(program, ("p",), (begins, answers), (2, 4)), due)
        # Where the need fails, the answer still has the marks that are given.
        keep = {"keep": Operation(1, (("s",),), z=(("z",),))}
        other = Program("p", {"p": ((("do", "a", "keep", "a"),), ())}, table=keep)
        self.assertIs(judged(other, ("p",), ((2,), (4,)), (2, 4)), False)
        self.assertIs(judged(other, ("p",), ((2,), (3,)), (2, 4)), True)
        self.assertEqual(Play(other, ("p",), ((2,), (3,)), narrow=2, wide=4).fails(), [0])

    def test_lost_answers_too(self):
        program = Program("p", {"p": ((("do", None, "loadz"),), ())})
        self.assertIs(judged(program, ("p",), ((), (3,)), (2, 4)), True)
        for bad in [((), (4,)), ((), ()), ((), (3, 3))]:
            self.assertIs(judged(program, ("p",), bad, (2, 4)), False)

    def test_starts(self):
        program = Program("p", {"p": ((), ())}, starts={"a": "z", "b": "s", "c": "sz"})
        for run, due in [(((3, 14, 0), ()), True), (((0, 0, 1), ()), True), (((4, 14, 0), ()), False),
                         (((3, 2, 0), ()), False), (((3, 14, 2), ()), False), (((3, 14, 14), ()), False)]:
            self.assertIs(judged(program, ("p",), run, (2, 4)), due)

    def test_values_of_another_form(self):
        program = Program("p", {"p": ((("do", "a", "load"),), ())})
        self.assertIs(judged(program, ("p",), ((1,), (0,)), (2, 4)), True)
        for bad in [[(1,), (0,)], ([1], (0,)), ((1,), [0]), ((1,), (0,), ()), ((1,),), ((True,), (0,)), ((1,), (False,)),
                    ((1,), (0.0,)), (("1",), (0,)), ((1,), (None,)), ((1,), ((0,),)), (1, 0), ((Wide(1, narrow=2, wide=4),), (0,)),
                    ((Agreeable(),), (0,)), ((1,), (Angry(),)), "1; 0", {(1,): (0,)}, ((1,), ())] + odd_values():
            self.assertIs(judged(program, ("p",), bad, (2, 4)), False)
            self.refused(BadRun, bad, Play, program, ("p",), bad, narrow=2, wide=4)
        self.assertIs(is_true(program=program, road=("p",), run=((1,), (0,)), narrow=2, wide=4), True)

    def test_empty_rows_beside_lists(self):
        program = Program("p", {"p": ((), ())})
        for run, due in [(((), ()), True), (([], ()), False), (((), []), False), ([(), ()], False), ((), False)]:
            self.assertIs(judged(program, ("p",), run, (2, 4)), due)


class Plays(Case):
    def test_beside_a_second_reckoning(self):
        for chance, program, blocks, starts, road, table in cases(126, 80):
            for sizes in ((2, 4), (3, 5)):
                run = random_run(chance, blocks, starts, road, sizes, table)
                rows, fails = played(blocks, starts, road, run, *sizes, table)
                play = Play(program, road, run, narrow=sizes[0], wide=sizes[1])
                self.assertEqual(len(play), len(rows) - 1)
                self.assertEqual(play.fails(), fails)
                for index, row in enumerate(rows):
                    wides = [Wide(row[name], narrow=sizes[0], wide=sizes[1]) for name in names_of(blocks, starts)]
                    self.assertEqual(play.wides(index), wides)
                    self.assertEqual(play.dresses(index), tuple(one.dress.marks for one in wides))

    def test_by_hand(self):
        rows = (("do", "a", "add", "a", "b"), ("widen", "s", "a"), ("move", "b", "a"), ("do", None, "slt", "a", "b"),
                ("do", "a", "shr", "a"))
        program = Program("p", {"p": (rows, ())}, starts={"b": "z"})
        play = Play(program=program, road=("p",), run=((15, 1), (11, 0, 9)), narrow=2, wide=4)
        due = [(15, 1), (11, 1), (15, 1), (15, 15), (15, 15), (9, 15)]
        self.assertEqual([[one.bits for one in play.wides(index=at)] for at in range(6)], [list(row) for row in due])
        self.assertEqual([play.dresses(index=0), play.dresses(5)], [("s", "zs"), ("", "s")])
        self.assertEqual([play.fails(), len(play)], [[4], 5])

    def test_an_index_that_is_none(self):
        program = Program("p", {"p": ((("do", "a", "load"),) * 2, ())})
        play = Play(program, ("p",), ((1,), (2, 3)), narrow=2, wide=4)
        self.assertEqual([play.wides(at)[0].bits for at in range(3)], [1, 2, 3])
        for bad in [3, -1, 10 ** 30, "0", (0,), Wide(0, narrow=2, wide=4)] + odd_values():
            self.refused(BadNumber, bad, play.wides, bad)
            self.refused(BadNumber, bad, play.dresses, bad)

    def test_lists_are_new_each_time(self):
        program = Program("p", {"p": ((("do", None, "shr", "a"),), ())})
        play = Play(program, ("p",), ((15,), (3,)), narrow=2, wide=4)
        play.fails().clear()
        play.wides(0).clear()
        self.assertEqual([play.fails(), len(play.wides(0))], [[0], 1])

    def test_a_play_is_equal_to_nothing_of_another_kind(self):
        program = Program("p", {"p": ((), ())})
        play = Play(program, ("p",), ((), ()), narrow=2, wide=4)
        for value in [((), ()), 0, [], None, Walk(program, ("p",))]:
            self.assertFalse(play == value)
            self.assertTrue(play != value)


class Reckoned(Case):
    def reckoned_run(self, chance, blocks, starts, road, sizes):
        """The run of what known operations reckon, and the low bits of narrow reckoning ahead of each step."""
        narrow, wide = sizes

        def drawn(marks):
            return chance.choice([bits for bits in range(2 ** wide) if set(marks) <= true_marks(bits, narrow, wide)])
        begins = {name: drawn(starts.get(name, "")) for name in names_of(blocks, starts)}
        bits, low = dict(begins), {name: begins[name] % 2 ** narrow for name in begins}
        answers, lows = [], [dict(low)]
        for row in [row for word in road for row in blocks[word][0]]:
            if row[0] == "move":
                bits[row[1]], low[row[1]] = bits[row[2]], low[row[2]]
            elif row[0] == "widen":
                bits[row[2]] = Wide(bits[row[2]], narrow=narrow, wide=wide).widened(row[1]).bits
            elif row[2] in ("load", "loadz", "loads", "one", "store"):
                answers.append(drawn({"loadz": "z", "loads": "s", "one": "zs"}.get(row[2], "")))
                bits[row[1]], low[row[1]] = answers[-1], answers[-1] % 2 ** narrow
            else:
                operands = [Wide(bits[name], narrow=narrow, wide=wide) for name in row[3:]]
                answers.append(reckon(row[2], operands).bits)
                # The narrow registers go on by themselves.
                small = [Wide(low[name], narrow=narrow, wide=wide) for name in row[3:]]
                bits[row[1]], low[row[1]] = answers[-1], narrowly(row[2], small)
            lows.append({name: low[name] for name in begins})
        return (tuple(begins.values()), tuple(answers)), lows

    def test_what_known_operations_reckon(self):
        chance = random.Random(127)
        compared = different = 0
        for _ in range(150):
            first, blocks, starts = random_program(chance)
            program = Program(first, blocks, starts=starts)
            sizes = chance.choice([(2, 4), (3, 5), (2, 6), (4, 7)])
            road = chance.choice(all_roads(first, blocks, 4))
            run, lows = self.reckoned_run(chance, blocks, starts, road, sizes)
            self.assertIs(judged(program, road, run, sizes), True)
            play = Play(program, road, run, narrow=sizes[0], wide=sizes[1])
            until = play.fails()[0] if play.fails() else len(play)
            for index in range(len(play) + 1):
                found = dict(zip(program.variables, [one.low for one in play.wides(index)]))
                if index <= until:
                    self.assertEqual(found, lows[index])
                    compared += 1
                else:
                    different += found != lows[index]
        # Behind a need that fails, the low bits may be others.
        self.assertGreater(min(compared, different), 20)

    def test_what_is_told_as_sure_is_true(self):
        more = 0
        for chance, program, blocks, starts, road, table in cases(128, 60):
            play = Play(program, road, random_run(chance, blocks, starts, road, (2, 4), table), narrow=2, wide=4)
            walk = Walk(program, road)
            for index, dresses in enumerate([dresses for _, dresses in walk.steps] + [walk.dresses()]):
                for told, true in zip(dresses, play.dresses(index)):
                    self.assertLessEqual(set(told), set(true))
                    more += told != true
        self.assertGreater(more, 50)


class Refused(Case):
    def test_each_in_the_told_order(self):
        program = Program("p", {"p": ((), ())})
        for call in (lambda *told, narrow, wide: is_true(told[0], told[1], None, narrow=narrow, wide=wide),
                     lambda *told, narrow, wide: Play(told[0], told[1], None, narrow=narrow, wide=wide), bits_for):
            for bad in ["p", Program, {"p": ((), ())}] + odd_values():
                self.refused(BadProgram, bad, call, bad, None, narrow=1, wide=1)
            for bad in [(), ["p"], "p", ("q",), ("p", "p"), (Angry(),)] + odd_values():
                self.refused(BadRoad, bad, call, program, bad, narrow=1, wide=1)
            for narrow, wide, value in WRONG_SIZES:
                self.refused(BadNumber, value, call, program, ("p",), narrow=narrow, wide=wide)
            for bad in odd_values():
                self.refused(BadNumber, bad, call, program, ("p",), narrow=bad, wide=1)
                self.refused(BadNumber, bad, call, program, ("p",), narrow=2, wide=bad)
        self.refused(BadRun, None, Play, program, ("p",), None, narrow=2, wide=4)

    def test_names_alone(self):
        program = Program("p", {"p": ((), ())})
        self.assertRaises(TypeError, is_true, program, ("p",), ((), ()), 2, 4)
        self.assertRaises(TypeError, bits_for, program, ("p",), 2, 4)
        self.assertRaises(TypeError, Play, program, ("p",), ((), ()), 2, 4)


if __name__ == "__main__":
    unittest.main()
