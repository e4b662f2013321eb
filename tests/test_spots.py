"""Point [14]: the blocks that are reached, goes, points and spots."""

import random
import unittest

from signskept.errors import BadProgram
from signskept.programs import Program
from signskept.spots import goes_of, points, reached, spots
from tests.helpers import Case, odd_values
from tests.plain import all_roads, random_program

LOAD = ("do", "a", "load")
# A ring, a block that goes to itself, one that no road comes to, and one that only that one goes to.
BLOCKS = {"p": ((LOAD,), ("t", "q")), "q": ((LOAD, LOAD), ("q", "p")), "t": ((), ()), "r": ((LOAD,), ("p", "s")),
          "s": ((), ("r",))}


class Spots(Case):
    def test_by_hand(self):
        program = Program("p", BLOCKS)
        self.assertEqual(reached(program=program), ["p", "q", "t"])
        self.assertEqual(goes_of(program=program), [("", "p"), ("p", "q"), ("p", "t"), ("q", "p"), ("q", "q")])
        due = [("p", "", 0), ("p", "", 1), ("q", "", 0), ("q", "", 1), ("q", "", 2), ("t", "", 0)]
        self.assertEqual(points(program=program), due)
        self.assertEqual(spots(program=program), [
            ("", "p", 0), ("p", "", 0), ("p", "", 1), ("p", "q", 0), ("p", "t", 0), ("q", "", 0), ("q", "", 1),
            ("q", "", 2), ("q", "p", 0), ("q", "q", 0), ("t", "", 0)])

    def test_the_least_program(self):
        program = Program("p", {"p": ((), ())})
        self.assertEqual([reached(program), goes_of(program), points(program), spots(program)],
                         [["p"], [("", "p")], [("p", "", 0)], [("", "p", 0), ("p", "", 0)]])

    def test_only_itself(self):
        program = Program("p", {"p": ((), ("p",)), "q": ((), ("p",))})
        self.assertEqual([reached(program), goes_of(program)], [["p"], [("", "p"), ("p", "p")]])

    def test_beside_all_roads_of_some_length(self):
        chance = random.Random(140)
        some_left = 0
        for _ in range(120):
            first, blocks, starts = random_program(chance, many_blocks=chance.randint(1, 5))
            program = Program(first, blocks, starts=starts)
            found = all_roads(first, blocks, len(blocks))
            words = sorted({word for road in found for word in road})
            goes = sorted({("", first)} | {(word, target) for word in words for target in blocks[word][1]})
            due = [(word, "", at) for word in words for at in range(len(blocks[word][0]) + 1)]
            self.assertEqual([reached(program), goes_of(program), points(program)], [words, goes, due])
            self.assertEqual(spots(program), sorted(due + [(word, target, 0) for word, target in goes]))
            some_left += len(words) < len(blocks)
        self.assertGreater(some_left, 20)

    def test_lists_are_new_each_time(self):
        program = Program("p", BLOCKS)
        for call in (reached, goes_of, points, spots):
            due = list(call(program))
            call(program).clear()
            self.assertEqual(call(program), due)

    def test_programs_that_are_none(self):
        for bad in ["p", BLOCKS, Program] + odd_values():
            for call in (reached, goes_of, points, spots):
                self.refused(BadProgram, bad, call, bad)


if __name__ == "__main__":
    unittest.main()
