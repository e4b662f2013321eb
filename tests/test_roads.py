"""Point [9]: roads and walks."""

import itertools
import random
import unittest

from signskept.dresses import Dress
from signskept.errors import BadNumber, BadProgram, BadRoad, NoVariable
from signskept.operations import Operation
from signskept.programs import Program
from signskept.roads import Walk, is_road, roads
from tests.helpers import Agreeable, Angry, Case, odd_values
from tests.plain import all_roads, names_of, random_program, walked

RING = {"p": ((("do", "a", "add", "a", "b"),), ("r", "q")), "q": ((("widen", "z", "a"),), ("p",)),
        "r": ((("do", None, "shr", "a"), ("move", "b", "a")), ()), "s": ((), ("p",))}


def ring():
    return Program("p", RING, starts={"b": "z"})


class Roads(Case):
    def test_in_the_told_order(self):
        self.assertEqual(list(roads(ring(), 4)), [
            ("p",), ("p", "q"), ("p", "r"), ("p", "q", "p"), ("p", "q", "p", "q"), ("p", "q", "p", "r")])
        self.assertEqual(list(roads(program=ring(), most=1)), [("p",)])

    def test_beside_another_search(self):
        chance = random.Random(9)
        for _ in range(60):
            first, blocks, starts = random_program(chance)
            program = Program(first, blocks, starts=starts)
            for most in (1, 2, 5):
                found = list(roads(program, most))
                self.assertEqual(found, all_roads(first, blocks, most))
                self.assertTrue(all(is_road(program, road) for road in found))
            self.assertEqual(list(roads(program, 5)), found)

    def test_forty_blocks(self):
        line = Program("p", {"p": ((), ("p",))})
        self.assertEqual(list(roads(line, 40)), [("p",) * many for many in range(1, 41)])
        # Many roads of forty blocks, of which only the first ones are asked for.
        wild = Program("p", {"p": ((), ("p", "q")), "q": ((), ("q", "p"))})
        found = list(itertools.islice(roads(wild, 40), 4))
        self.assertEqual(found, [("p",), ("p", "p"), ("p", "q"), ("p", "p", "p")])

    def test_a_road_ends(self):
        line = Program("p", {"p": ((), ("q",)), "q": ((), ())})
        self.assertEqual(list(roads(line, 40)), [("p",), ("p", "q")])

    def test_arguments_are_checked_when_the_iteration_begins(self):
        for bad in ["p", RING, Program] + odd_values():
            self.refused_while(BadProgram, bad, roads, bad, None)
            self.refused_while(BadProgram, bad, roads, bad, 3)
        for bad in [0, 41, -1, 10 ** 30, "3"] + odd_values():
            self.refused_while(BadNumber, bad, roads, ring(), bad)


class IsRoad(Case):
    def test_beside_all_tuples(self):
        chance = random.Random(99)
        for _ in range(30):
            first, blocks, starts = random_program(chance, many_blocks=3)
            program = Program(first, blocks, starts=starts)
            found = all_roads(first, blocks, 4)
            for many in range(5):
                for thing in itertools.product(list(blocks), repeat=many):
                    self.assertIs(is_road(program, thing), thing in found)

    def test_long_roads(self):
        self.assertIs(is_road(ring(), ("p", "q") * 500), True)
        self.assertIs(is_road(ring(), ("p", "q") * 500 + ("q",)), False)

    def test_any_value(self):
        for bad in [(), ["p"], "p", "pq", ("p", "x"), ("x",), ("p", "r", "p"), ("s", "p"), ("q",), ("p", None),
                    (None,), ("p", ["q"]), ("p", 0), (Angry(),), ("p", Angry()), (Agreeable(),),
                    ("p", Agreeable()), (("p",),), ("p", "q", "p", "p"), ("pq",)] + odd_values():
            self.assertIs(is_road(ring(), bad), False)
        self.assertIs(is_road(program=ring(), thing=("p", "q")), True)

    def test_programs_that_are_none(self):
        for bad in ["p", RING, Program] + odd_values():
            self.refused(BadProgram, bad, is_road, bad, ("p",))
            self.refused(BadProgram, bad, is_road, bad, None)


class Walks(Case):
    def test_beside_another_walk(self):
        chance = random.Random(90)
        for _ in range(80):
            first, blocks, starts = random_program(chance)
            program = Program(first, blocks, starts=starts)
            for road in all_roads(first, blocks, 4):
                steps, behind, fails = walked(blocks, starts, road)
                walk = Walk(program, road)
                self.assertEqual(walk.steps, steps)
                self.assertEqual([walk.road, walk.dresses(), walk.fails()], [road, behind, fails])
                self.assertEqual(len(walk), len(steps))
                self.assertEqual([walk[name].marks for name in names_of(blocks, starts)], list(behind))

    def test_by_hand(self):
        walk = Walk(ring(), ("p", "q", "p", "r"))
        self.assertEqual(walk.steps, [(("p", 0), ("", "z")), (("q", 0), ("", "z")), (("p", 0), ("z", "z")),
                                      (("r", 0), ("", "z")), (("r", 1), ("", "z"))])
        self.assertEqual([walk.fails(), walk.dresses(), len(walk)], [[3], ("", ""), 5])
        self.assertEqual([walk["a"], walk["b"]], [Dress(), Dress()])
        self.assertEqual(Walk(program=ring(), road=("p", "q"))["a"], Dress("z"))

    def test_operations_of_a_table(self):
        keep = Operation(3, (("z", "", ""), ("", "s", "")), z=(("z", "z", ""), ("", "", "zs")), s=(("", "s", "s"),))
        rows = (("do", "a", "keep", "a", "b", "c"), ("do", "b", "keep", "a", "b", "c"),
                ("do", None, "keep", "b", "c", "a"))
        program = Program("p", {"p": (rows, ())}, starts={"b": "s", "c": "zs"}, table={"keep": keep})
        walk = Walk(program, ("p",))
        self.assertEqual([dresses for _, dresses in walk.steps],
                         [("", "s", "zs"), ("zs", "s", "zs"), ("zs", "zs", "zs")])
        self.assertEqual(walk.fails(), [])
        self.assertEqual(Walk(program.with_row(("p", 0), ("move", "b", "a")), ("p",)).fails(), [1])

    def test_a_need_that_fails_changes_nothing(self):
        rows = (("do", "a", "ult", "a", "b"), ("do", "b", "shr", "b"))
        walk = Walk(Program("p", {"p": (rows, ())}), ("p",))
        self.assertEqual([walk.fails(), walk.dresses()], [[0, 1], ("zs", "")])

    def test_lists_are_new_each_time(self):
        walk = Walk(ring(), ("p", "r"))
        walk.steps.clear()
        walk.fails().clear()
        self.assertEqual([walk.steps[0], walk.fails(), len(walk)], [(("p", 0), ("", "z")), [1], 3])

    def test_one_block_more(self):
        walk = Walk(ring(), ("p",))
        longer = walk + "q" + "p" + "r"
        self.assertEqual(longer, Walk(ring(), ("p", "q", "p", "r")))
        self.assertEqual([walk.road, longer.road], [("p",), ("p", "q", "p", "r")])
        self.assertEqual(longer.steps, Walk(ring(), ("p", "q", "p", "r")).steps)
        name = walk
        name += "q"
        self.assertEqual([name.road, walk.road], [("p", "q"), ("p",)])

    def test_blocks_that_do_not_follow(self):
        for bad in ["p", "s", "x", "", "rq", ("r",), 0, Angry(), Agreeable()] + odd_values():
            self.refused(BadRoad, bad, lambda: Walk(ring(), ("p",)) + bad)
        self.refused(BadRoad, "p", lambda: Walk(ring(), ("p", "r")) + "p")

    def test_equality(self):
        walk = Walk(ring(), ("p", "q"))
        self.assertEqual(walk, Walk(ring(), ("p", "q")))
        self.assertNotEqual(walk, Walk(ring(), ("p", "r")))
        self.assertNotEqual(walk, Walk(Program("p", RING), ("p", "q")))
        self.assertFalse(walk != Walk(ring(), ("p", "q")))
        for value in [("p", "q")] + odd_values():
            self.assertIs(walk.__eq__(value), False)

    def test_variables_that_are_none(self):
        walk = Walk(ring(), ("p",))
        for bad in ["c", "p", "", "ab", 0, 1, -1, Dress("z"), slice(0, 1)] + odd_values():
            self.refused(NoVariable, bad, lambda: walk[bad])
        self.assertRaises(TypeError, list, walk)

    def test_a_variable_that_is_only_told_in_starts(self):
        self.assertEqual(Walk(Program("p", {"p": ((), ())}, starts={"x": "sz"}), ("p",))["x"], Dress("zs"))

    def test_what_is_refused(self):
        for bad in ["p", RING, Program] + odd_values():
            self.refused(BadProgram, bad, Walk, bad, ("p",))
            self.refused(BadProgram, bad, Walk, bad, None)
        for bad in [(), ["p"], "p", ("q",), ("p", "p"), ("p", "x"), ("p", Angry())] + odd_values():
            self.refused(BadRoad, bad, Walk, ring(), bad)

    def test_nothing_can_be_set(self):
        for name in ("road", "steps"):
            self.assertRaises(AttributeError, setattr, Walk(ring(), ("p",)), name, ())


if __name__ == "__main__":
    unittest.main()
