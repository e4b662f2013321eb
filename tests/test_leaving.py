"""Point [13]: widenings left out."""

import itertools
import random
import unittest

from signskept.errors import BadProgram, NoPlace, TooLarge, TooMany
from signskept.leaving import Bench, cheapest_left, greatest, leavable, may_leave
from signskept.programs import Program
from signskept.tables import is_right
from tests.helpers import Agreeable, Angry, Case, odd_values
from tests.plain import OPERATIONS, explored, random_program
from tests.test_tables import shifting

# A widening by z that is needed, and one by s that takes the mark away from it.
TAKEN = {"p": ((("widen", "z", "a"), ("widen", "s", "a"), ("do", None, "shr", "a"), ("widen", "z", "a"),
                ("do", None, "shr", "a")), ())}
TAKEN_SETS = [(("p", 1),), (("p", 1), ("p", 3))]
FREE = {"p": ((("widen", "z", "b"), ("move", "a", "b"), ("widen", "s", "a")), ("q",)), "q": ((("widen", "s", "b"),), ())}


def left_out(blocks, places):
    """The blocks without the rows at some places."""
    return {word: (tuple(row for at, row in enumerate(rows) if (word, at) not in places), goes)
            for word, (rows, goes) in blocks.items()}


def all_sets(blocks):
    """All sets of widenings in the told order."""
    found = sorted((word, at) for word in blocks for at, row in enumerate(blocks[word][0]) if row[0] == "widen")
    return [places for many in range(len(found) + 1) for places in itertools.combinations(found, many)]


def searched(first, blocks, starts):
    """The sets that may be left out, by a search of its own for each of them."""
    return [places for places in all_sets(blocks) if not explored(first, left_out(blocks, places), starts)[1]]


def programs(seed, many):
    """Small programs, with a few widenings that may be asked for."""
    chance = random.Random(seed)
    few = {word: OPERATIONS[word] for word in ("shr", "sar", "ult", "equ", "load", "loadz", "xor")}
    while many:
        first, blocks, starts = random_program(chance, many_blocks=2, many_names=2, most_rows=5, table=few)
        fine = [row for rows, _ in blocks.values() for row in rows if row[0] == "do"]
        if 4 <= len(all_sets(blocks)) <= 32 and fine and (searched(first, blocks, starts) or many % 4 == 0):
            many -= 1
            yield chance, Program(first, blocks, starts=starts), (first, blocks, starts)


def widens(many):
    """A program of so many widenings that are not needed."""
    return Program("p", {"p": (tuple(("widen", "zs"[at % 2], "a") for at in range(many)), ("p",))})


def shuffled(chance, places):
    return chance.sample(places, len(places))


class Sets(Case):
    def test_beside_a_search(self):
        seen = set()
        for chance, program, told in programs(130, 120):
            due = searched(*told)
            for places in all_sets(told[1]):
                self.assertIs(may_leave(program, shuffled(chance, places)), places in due)
                self.assertIs(may_leave(program, tuple(shuffled(chance, places))), places in due)
            found = list(leavable(program))
            self.assertEqual(found, due)
            most = [places for places in due if not any(set(places) < set(other) for other in due)]
            self.assertEqual(greatest(program), most)
            longest = max([len(places) for places in due], default=0)
            first = next((places for places in due if len(places) == longest), None)
            self.assertEqual(cheapest_left(program), first)
            # A set may be left out though a part of it may not.
            alone = any(len(places) > 0 and not all(places[:at] + places[at + 1:] in due for at in range(len(places)))
                        for places in due)
            seen.add((len(due) > 0, len(most) > 1, alone))
        self.assertLessEqual({(False, False, False), (True, False, False), (True, True, False), (True, False, True)}, seen)

    def test_a_larger_set_and_no_smaller_one(self):
        program = Program("p", TAKEN)
        self.assertEqual(list(leavable(program)), TAKEN_SETS)
        self.assertEqual([greatest(program), cheapest_left(program)], [TAKEN_SETS[1:], TAKEN_SETS[1]])
        self.assertIs(may_leave(program, []), False)
        self.assertIs(may_leave(program, [("p", 3)]), False)
        self.assertIs(may_leave(program=program, places=[("p", 3), ("p", 1)]), True)
        self.assertIs(may_leave(program, (("p", 0), ("p", 1))), False)

    def test_the_order(self):
        program = Program("p", FREE)
        one, two, three = ("p", 0), ("p", 2), ("q", 0)
        self.assertEqual(list(leavable(program=program)), [
            (), (one,), (two,), (three,), (one, two), (one, three), (two, three), (one, two, three)])
        self.assertEqual(greatest(program=program), [(one, two, three)])
        self.assertEqual(cheapest_left(program=program), (one, two, three))

    def test_several_that_are_greatest(self):
        # Of the two by z one is needed, ahead of the loss or behind it.
        rows = (("widen", "z", "a"), ("widen", "z", "a"), ("do", None, "shr", "a"), ("widen", "s", "b"),
                ("widen", "s", "b"), ("do", None, "sar", "b"))
        program = Program("p", {"p": (rows, ())})
        sets = [(("p", first), ("p", second)) for first in (0, 1) for second in (3, 4)]
        self.assertEqual(greatest(program), sets)
        self.assertEqual(cheapest_left(program), sets[0])

    def test_greatest_of_several_sizes(self):
        # The first one is needed where one of the other two is left out, and only there.
        blocks = {"p": ((("widen", "z", "a"),), ("q", "r")), "q": ((("widen", "z", "a"), ("do", None, "shr", "a")), ()),
                  "r": ((("widen", "z", "a"), ("do", None, "shr", "a")), ())}
        program = Program("p", blocks)
        self.assertEqual(list(leavable(program)), searched("p", blocks, {}))
        self.assertEqual(greatest(program), [(("p", 0),), (("q", 0), ("r", 0))])
        self.assertEqual(cheapest_left(program), (("q", 0), ("r", 0)))

    def test_a_widening_that_takes_a_mark_away(self):
        rows = (("widen", "z", "a"), ("widen", "s", "a"), ("widen", "z", "a"), ("do", None, "shr", "a"))
        program = Program("p", {"p": (rows, ())})
        due = searched("p", {"p": (rows, ())}, {})
        self.assertEqual(list(leavable(program)), due)
        self.assertEqual(greatest(program), [(("p", 0), ("p", 1)), (("p", 1), ("p", 2))])

    def test_none_there(self):
        program = Program("p", {"p": ((("do", None, "slt", "a", "a"), ("widen", "s", "a")), ())})
        self.assertEqual([list(leavable(program)), greatest(program), cheapest_left(program)], [[], [], None])

    def test_no_widenings(self):
        right = Program("p", {"p": ((("move", "a", "b"),), ())})
        self.assertEqual([list(leavable(right)), greatest(right), cheapest_left(right)], [[()], [()], ()])
        self.assertIs(may_leave(right, []), True)
        wrong = Program("p", {"p": ((("do", None, "shr", "a"),), ())})
        self.assertEqual([list(leavable(wrong)), greatest(wrong), cheapest_left(wrong)], [[], [], None])

    def test_eight_widenings_and_nine(self):
        self.assertEqual(len(list(leavable(widens(8)))), 256)
        self.assertEqual(greatest(widens(8)), [tuple(("p", at) for at in range(8))])
        self.assertEqual(cheapest_left(widens(8)), tuple(("p", at) for at in range(8)))
        program = widens(9)
        self.refused_while(TooMany, program, leavable, program)
        self.refused(TooMany, program, greatest, program)
        self.refused(TooMany, program, cheapest_left, program)
        self.assertIs(may_leave(program, program.widenings()), True)

    def test_places_in_any_order(self):
        program = Program("p", FREE)
        for places in itertools.permutations(program.widenings()):
            self.assertIs(may_leave(program, list(places)), True)
            self.assertIs(may_leave(program, places), True)
        places = [("q", 0), ("p", 0)]
        may_leave(program, places)
        self.assertEqual(places, [("q", 0), ("p", 0)])

    def test_too_large(self):
        program = Program("h", shifting(12, 1))
        with_widening = program.with_more(("a", 1), ("widen", "z", "va"))
        for one in (program, with_widening):
            self.refused_while(TooLarge, one, leavable, one)
            self.refused(TooLarge, one, greatest, one)
            self.refused(TooLarge, one, cheapest_left, one)
            with self.assertRaises(TooLarge) as caught:
                may_leave(one, one.widenings())
            self.assertEqual(caught.exception.value, one.without(one.widenings()))
        many = program
        for _ in range(9):
            many = many.with_more(("a", 1), ("widen", "z", "va"))
        self.refused_while(TooMany, many, leavable, many)

    def test_too_large_only_without_a_widening(self):
        # The widening takes the marks away that go round in the ring.
        program = Program("h", shifting(12, 1)).with_more(("h", 0), ("widen", "s", "vf"))
        self.assertIs(may_leave(program, []), True)
        with self.assertRaises(TooLarge) as caught:
            may_leave(program, [("h", 0)])
        self.assertEqual(caught.exception.value, program.without([("h", 0)]))
        for call in (greatest, cheapest_left, lambda one: list(leavable(one))):
            self.assertRaises(TooLarge, call, program)

    def test_places_that_are_none(self):
        program = Program("p", FREE)
        for bad in [[("p", 1)], [("p", 0), ("p", 0)], (("q", 0), ("p", 0), ("q", 0)), ("p", 0), [["p", 0]], [("p", 3)],
                    [("q", False)], [("p", -1)], {("p", 0): 1}, {("p", 0)}, iter([]), [Angry()], [("p", Agreeable())],
                    "", [("p", 0), ("p", 1)], [("r", 0)], ["p0"]] + [bad for bad in odd_values() if repr(bad) != "[]"]:
            self.refused(NoPlace, bad, may_leave, program, bad)
            bench = Bench(program)
            bench -= ("p", 2)
            self.refused(NoPlace, bad, bench.leave, bad)
            self.refused(NoPlace, bad, setattr, bench, "left", bad)
            self.refused(NoPlace, bad, bench.tried, bad, lambda one: self.fail("called"))
            self.assertEqual([bench.left, bench.current], [(("p", 2),), program.without([("p", 2)])])

    def test_programs_that_are_none(self):
        for bad in ["p", FREE, Program, Bench(Program("p", FREE))] + odd_values():
            self.refused(BadProgram, bad, may_leave, bad, None)
            self.refused_while(BadProgram, bad, leavable, bad)
            self.refused(BadProgram, bad, greatest, bad)
            self.refused(BadProgram, bad, cheapest_left, bad)
            self.refused(BadProgram, bad, Bench, bad)


class Benches(Case):
    def check(self, bench, program, places):
        """All that a bench tells, where just these are left out."""
        places = tuple(sorted(places))
        self.assertEqual([bench.whole, bench.left, bench.current], [program, places, program.without(places)])
        kept = [place for place in program.widenings() if place not in places]
        self.assertEqual([place for place in program.places() if place in bench], kept)
        self.assertEqual(len(bench), len(kept))

    def test_leave_and_left(self):
        for chance, program, (_, blocks, _) in programs(131, 40):
            bench = Bench(program=program)
            self.check(bench, program, ())
            for _ in range(5):
                places = chance.choice(all_sets(blocks))
                self.assertIsNone(bench.leave(shuffled(chance, places)))
                self.check(bench, program, places)
                places = chance.choice(all_sets(blocks))
                bench.left = tuple(shuffled(chance, places))
                self.check(bench, program, places)
                self.assertIs(is_right(bench.current), may_leave(program, bench.left))

    def test_one_more_and_one_less(self):
        for chance, program, _ in programs(132, 40):
            bench = same = Bench(program)
            out = set()
            for _ in range(12):
                place = chance.choice(program.places())
                if place in bench:
                    with self.assertRaises(NoPlace) as caught:
                        bench += place
                    self.assertIs(caught.exception.value, place)
                    bench -= place
                    out.add(place)
                elif place in out:
                    with self.assertRaises(NoPlace) as caught:
                        bench -= place
                    self.assertIs(caught.exception.value, place)
                    bench += place
                    out.remove(place)
                self.assertIs(bench, same)
                self.check(bench, program, out)

    def test_what_may_be_neither_left_out_nor_put_in(self):
        program = Program("p", FREE)
        bench = Bench(program)
        bench -= ("q", 0)
        for bad in [("p", 1), ("p", 3), ("r", 0), ("p", -1), ("p", True), ["p", 0], [("p", 0)], "p", ("p",), (("p", 0),),
                    ("p", Agreeable()), (Angry(), 0)] + odd_values():
            with self.assertRaises(NoPlace) as caught:
                bench -= bad
            self.assertIs(caught.exception.value, bad)
            with self.assertRaises(NoPlace) as caught:
                bench += bad
            self.assertIs(caught.exception.value, bad)
            self.assertIs(bad in bench, False)
            self.check(bench, program, [("q", 0)])
        self.assertIs(("p", 0) in bench, True)
        self.assertIs(("q", 0) in bench, False)

    def test_places_of_the_whole_program(self):
        # What is left out does not change the indexes of the others.
        program = Program("p", FREE)
        bench = Bench(program)
        bench -= ("p", 0)
        bench -= ("p", 2)
        self.check(bench, program, [("p", 0), ("p", 2)])
        self.assertEqual(bench.current.rows("p"), (("move", "a", "b"),))

    def test_tried(self):
        program = Program("p", FREE)
        bench = Bench(program)
        bench.leave([("p", 0)])
        seen = []

        def asked(one):
            seen.append(one is bench)
            self.check(one, program, [("q", 0), ("p", 2)])
            return [1]
        self.assertEqual(bench.tried([("q", 0), ("p", 2)], asked), [1])
        self.assertEqual(seen, [True])
        self.check(bench, program, [("p", 0)])
        self.assertEqual(bench.tried(places=(), asked=lambda one: (one.left, len(one))), ((), 3))
        self.assertIsNone(bench.tried([], lambda one: None))
        self.check(bench, program, [("p", 0)])

    def test_tried_with_a_call_that_raises(self):
        program = Program("p", FREE)
        bench = Bench(program)
        bench.leave([("p", 0)])
        for error in (KeyError("x"), ValueError(), NoPlace(1), KeyboardInterrupt(), StopIteration()):
            def asked(one):
                self.check(one, program, [("p", 2)])
                raise error
            with self.assertRaises(type(error)) as caught:
                bench.tried([("p", 2)], asked)
            self.assertIs(caught.exception, error)
            self.check(bench, program, [("p", 0)])

    def test_tried_with_a_call_that_changes_the_bench(self):
        program = Program("p", FREE)
        bench = Bench(program)
        bench.leave([("p", 0)])

        def asked(one):
            one.leave([])
            one -= ("q", 0)
            told = one.tried([("p", 0), ("p", 2)], lambda inner: inner.left)
            self.check(one, program, [("q", 0)])
            one.left = [("p", 2)]
            return told
        self.assertEqual(bench.tried([("p", 2)], asked), (("p", 0), ("p", 2)))
        self.check(bench, program, [("p", 0)])

    def test_what_can_be_set(self):
        bench = Bench(Program("p", FREE))
        for name in ("whole", "current"):
            self.assertRaises(AttributeError, setattr, bench, name, None)
        places = [("p", 0)]
        bench.left = places
        places.clear()
        self.assertEqual(bench.left, (("p", 0),))

    def test_a_bench_is_equal_to_nothing_of_another_kind(self):
        bench = Bench(Program("p", FREE))
        for value in [Program("p", FREE), (), [], 3, None, True]:
            self.assertFalse(bench == value)
            self.assertTrue(bench != value)


if __name__ == "__main__":
    unittest.main()
