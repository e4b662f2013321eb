"""Point [15]: puts."""

import random
import unittest

from signskept.errors import BadMark, BadProgram, BadPuts, BadRoad, NotSimple, TooLarge
from signskept.operations import Operation
from signskept.programs import Program
from signskept.puts import count_on, placed, serves, unsure
from signskept.roads import Walk
from signskept.tables import is_right
from signskept.wants import wanted
from tests.helpers import Agreeable, Angry, Case, odd_values
from tests.plain import (all_roads, all_spots, met, names_of, random_fit_program, random_fit_table, random_program,
                         with_table)

RING = {"p": ((("do", "a", "load"), ("do", None, "shr", "a")), ("q", "p")), "q": ((("move", "b", "a"),), ("p", "t")),
        "t": ((("do", None, "udiv", "a", "b"),), ()), "r": ((), ("p",))}


def ring():
    return Program("p", RING, starts={"b": "z"})


def random_puts(chance, first, blocks, starts, most=6):
    """Some puts, on goes, at points and on the go of the beginning, in any order."""
    found = [(spot, name) for spot in all_spots(first, blocks) for name in names_of(blocks, starts)]
    return chance.sample(found, min(len(found), chance.randint(0, most)))


def first_wants(program, mark):
    """Whether some row wants something."""
    return any(wanted(program, place, mark) for place in program.places())


def cases(seed, many, most=6, most_needs=3, **named):
    """Simple programs with puts, as tuples of all that a test needs of them."""
    chance = random.Random(seed)
    for index in range(many):
        mark = "zs"[index % 2]
        told = random_fit_table(chance, mark, most_needs=most_needs)
        first, blocks, starts = random_fit_program(chance, mark, told, **named)
        operations = {word: Operation(parts[0], parts[1], z=parts[2], s=parts[3]) for word, parts in told.items()}
        program = Program(first, blocks, starts=starts, table=operations)
        puts = random_puts(chance, first, blocks, starts, most)
        yield chance, program, (first, blocks, starts), mark, puts, with_table(told)


def followed(told, mark, puts, table, most):
    """All tuples (point, variable) where the mark is not sure on some road of so many blocks."""
    first, blocks, starts = told
    found = set()
    for road in all_roads(first, blocks, most):
        points, _, _ = met(blocks, starts, road, mark, puts, table)
        found.update((point, name) for point, dresses in points for name in dresses if mark not in dresses[name])
    return sorted(found)


def one_need_each(program, first, blocks):
    """Whether each row of an operation, in a block that is on a road, has just one need."""
    rows = [row for word in {spot[0] for spot in all_spots(first, blocks)} - {""} for row in blocks[word][0]]
    return all(len(program.operation(row[2]).needs) == 1 for row in rows if row[0] == "do")


class Unsure(Case):
    def test_beside_all_roads_of_some_length(self):
        kinds = set()
        for chance, program, told, mark, puts, table in cases(150, 150, many_blocks=3, many_names=2, most_rows=3):
            # No path has to come to a block with a variable twice: so that many blocks are enough.
            due = followed(told, mark, puts, table, 7)
            self.assertEqual(unsure(program, mark, puts), due)
            self.assertEqual(unsure(program, mark, tuple(puts[::-1])), due)
            self.assertEqual(unsure(program, mark, []), followed(told, mark, [], table, 7))
            kinds.add((len(puts) > 0, len(due) > 0))
        self.assertEqual(len(kinds), 4)

    def test_by_hand(self):
        program = ring()
        self.assertEqual(unsure(program=program, mark="z", puts=[]), [
            (("p", "", 0), "a"), (("p", "", 0), "b"), (("p", "", 1), "a"), (("p", "", 1), "b"), (("p", "", 2), "a"),
            (("p", "", 2), "b"), (("q", "", 0), "a"), (("q", "", 0), "b"), (("q", "", 1), "a"), (("q", "", 1), "b"),
            (("t", "", 0), "a"), (("t", "", 0), "b"), (("t", "", 1), "a"), (("t", "", 1), "b")])
        puts = [(("p", "", 1), "a")]
        self.assertEqual(unsure(program, "z", puts), [(("p", "", 0), "a")])
        self.assertEqual(unsure(program, "z", puts + [(("", "p", 0), "a")]), [])
        # On another go of the ring the put does not help.
        self.assertEqual(unsure(program, "z", [(("q", "t", 0), "a"), (("p", "q", 0), "a")]), [
            (("p", "", 0), "a"), (("p", "", 1), "a"), (("p", "", 2), "a")])
        self.assertEqual(unsure(program, "z", [(("p", "", 2), "a")]), [(("p", "", 0), "a"), (("p", "", 1), "a")])

    def test_lost_marks(self):
        # By s nothing is sure of b, and the lost answer changes nothing.
        rows = (("do", None, "load"), ("do", "a", "one"), ("do", "a", "xor", "a", "b"), ("do", "a", "xor", "b", "a"))
        program = Program("p", {"p": (rows, ())}, starts={"a": "s", "b": "z"})
        self.assertEqual(unsure(program, "s", [(("p", "", 3), "b")]), [
            (("p", "", 0), "b"), (("p", "", 1), "b"), (("p", "", 2), "b"), (("p", "", 3), "a"), (("p", "", 4), "a")])
        self.assertEqual(unsure(program, "s", ((("", "p", 0), "b"),)), [])


class Serves(Case):
    def test_beside_all_roads_of_some_length(self):
        kinds = set()
        for chance, program, told, mark, puts, table in cases(151, 200, most=12, many_blocks=3, many_names=2, most_rows=3):
            first, blocks, starts = told
            due = True
            bad = followed(told, mark, puts, table, 7)
            for point, name in bad:
                rows = blocks[point[0]][0]
                if point[2] < len(rows) and rows[point[2]][0] == "do":
                    row = rows[point[2]]
                    needs = [wants for wants in program.operation(row[2]).needs if set("".join(wants)) <= {mark}][0]
                    due = due and not any(part == name and want for part, want in zip(row[3:], needs))
            self.assertIs(serves(program, mark, puts), due)
            kinds.add((due, len(puts) > 0))
        self.assertEqual(len(kinds), 4)

    def test_what_serves_is_right_when_it_is_placed(self):
        many = {True: 0, False: 0}
        for chance, program, (first, blocks, _), mark, puts, table in cases(
                152, 400, most=12, most_needs=1, many_blocks=3, many_names=2, most_rows=3):
            right = is_right(placed(program, mark, puts))
            if serves(program, mark, puts):
                self.assertIs(right, True)
            elif one_need_each(program, first, blocks):
                self.assertIs(right, False)
            if one_need_each(program, first, blocks) and first_wants(program, mark):
                many[right] += 1
        self.assertGreater(min(many.values()), 25)
        for chance, program, _, mark, puts, table in cases(155, 100, most=12, many_blocks=3, many_names=2, most_rows=3):
            if serves(program, mark, puts):
                self.assertIs(is_right(placed(program, mark, puts)), True)

    def test_by_hand(self):
        program = ring()
        self.assertIs(serves(program=program, mark="z", puts=[]), False)
        self.assertIs(serves(program, "z", [(("p", "", 1), "a")]), True)
        self.assertIs(serves(program, "z", [(("p", "q", 0), "a"), (("p", "", 2), "b")]), False)
        self.assertIs(serves(program, "z", [(("p", "", 0), "a"), (("q", "t", 0), "a"), (("q", "t", 0), "b")]), False)
        self.assertIs(serves(Program("p", {"p": ((), ())}), "s", []), True)

    def test_rows_that_no_road_comes_to(self):
        program = Program("p", {"p": ((), ()), "q": ((("do", None, "shr", "a"),), ())})
        self.assertIs(serves(program, "z", []), True)

    def test_served_by_another_need_it_does_not_serve(self):
        # It is right by the second alternative, though the first one alone is asked here.
        table = {"any": Operation(1, (("z",), ("",)))}
        program = Program("p", {"p": ((("do", None, "any", "a"),), ())}, table=table)
        self.assertIs(serves(program, "z", []), False)
        self.assertIs(is_right(placed(program, "z", [])), True)


class Placed(Case):
    def test_beside_a_walk(self):
        # Whether on a go or at a point: along each road of it the same happens as with the puts.
        for chance, program, (first, blocks, starts), mark, puts, table in cases(153, 100, many_blocks=4):
            made = placed(program, mark, puts)
            self.assertEqual(made.variables, program.variables)
            self.assertEqual(made.starts(), program.starts())
            self.assertEqual(len(made.widenings()), len(program.widenings()) + len(puts))
            goes = {spot for spot, _ in puts if spot[1]}
            self.assertEqual(len(made.words), len(program.words) + len(goes))
            for road in all_roads(first, blocks, 4):
                points, many, rows = met(blocks, starts, road, mark, puts, table)
                walk = Walk(made, self.road_in(made, program, road))
                self.assertEqual([walk[name].marks for name in program.variables],
                                 ["".join(sorted(points[-1][1][name], reverse=True)) for name in program.variables])
                self.assertEqual(len(walk), len([row for row in rows if row is not None]) + many)
                self.assertEqual(count_on(program, puts, road), many)

    def road_in(self, made, program, road):
        """The same road in the program with the widenings, by the same choices at each end of a block."""
        found = [made.first]
        if found[-1] not in program.words:
            found.append(made.goes(found[-1])[0])
        for word, target in zip(road, road[1:]):
            self.assertEqual(found[-1], word)
            found.append(made.goes(word)[program.goes(word).index(target)])
            if found[-1] not in program.words:
                self.assertEqual(len(made.goes(found[-1])), 1)
                found.append(made.goes(found[-1])[0])
        self.assertEqual(found[-1], road[-1])
        return tuple(found)

    def test_rows_and_blocks_in_order(self):
        program = ring()
        puts = [(("p", "", 2), "b"), (("q", "p", 0), "b"), (("p", "", 0), "b"), (("q", "p", 0), "a"), (("p", "", 0), "a"),
                (("p", "p", 0), "a"), (("", "p", 0), "b"), (("t", "", 0), "a"), (("t", "", 1), "a")]
        made = placed(program=program, mark="s", puts=puts)
        a, b = ("widen", "s", "a"), ("widen", "s", "b")
        self.assertEqual(made.rows("p"), (a, b) + RING["p"][0] + (b,))
        self.assertEqual([made.rows("q"), made.rows("t"), made.rows("r")], [RING["q"][0], (a,) + RING["t"][0] + (a,), ()])
        new = [word for word in made.words if word not in RING]
        self.assertEqual(len(new), 3)
        ahead, (same, around), (behind, last) = made.first, made.goes("p"), made.goes("q")
        self.assertEqual([same, last], ["q", "t"])
        self.assertEqual(sorted([ahead, around, behind]), sorted(new))
        self.assertEqual([made.rows(ahead), made.goes(ahead)], [(b,), ("p",)])
        self.assertEqual([made.rows(around), made.goes(around)], [(a,), ("p",)])
        self.assertEqual([made.rows(behind), made.goes(behind)], [(a, b), ("p",)])
        self.assertEqual([made.goes("r"), made.goes("t")], [("p",), ()])
        self.assertEqual(puts[0], (("p", "", 2), "b"))

    def test_no_puts(self):
        table = {"mix": Operation(1, z=(("z",),))}
        program = Program("q", {"p": ((("do", "a", "mix", "b"),), ("q",)), "q": ((), ("p", "q"))}, starts={"c": "zs"},
                          table=table)
        for puts in ([], ()):
            self.assertEqual(placed(program, "z", puts), program)
        self.assertEqual(placed(program, "z", [(("q", "p", 0), "c")]).operation("mix"), table["mix"])

    def test_programs_that_are_not_simple(self):
        program = Program("p", {"p": ((("do", "a", "and", "a", "b"), ("widen", "s", "a")), ())})
        made = placed(program, "z", [(("p", "", 1), "a")])
        self.assertEqual(made.rows("p"), (("do", "a", "and", "a", "b"), ("widen", "z", "a"), ("widen", "s", "a")))

    def test_free_words(self):
        words = "abcdefghijklmnop"
        blocks = {word: ((), (words[0], words[1])) for word in words}
        program = Program("b", blocks, starts={"a": ""})
        made = placed(program, "z", [(("", "b", 0), "a"), (("b", "a", 0), "a"), (("b", "b", 0), "a"), (("a", "b", 0), "a")])
        self.assertEqual(len(made.words), 20)
        new = set(made.words) - set(words)
        self.assertEqual([len(new), made.first in new], [4, True])
        self.assertTrue(set(made.goes("b")) <= new)
        self.assertEqual([made.goes("a")[0], made.goes("c")], ["a", ("a", "b")])

    def test_twenty_blocks_and_one_more(self):
        words = ["b" + letter for letter in "abcdefghijklmnopqrst"]
        blocks = {word: ((), tuple(words[at + 1:at + 2])) for at, word in enumerate(words)}
        program = Program("ba", blocks, starts={"x": "", "y": ""})
        self.refused(TooLarge, program, placed, program, "z", [(("", "ba", 0), "x")])
        self.refused(TooLarge, program, placed, program, "z", [(("bc", "bd", 0), "x")])
        self.assertEqual(len(placed(program, "z", [(("bc", "", 0), "x")]).words), 20)
        blocks = {word: ((), tuple(words[at + 1:at + 2]) if at < 18 else ()) for at, word in enumerate(words[:19])}
        program = Program("ba", blocks, starts={"x": "", "y": ""})
        both = [(("bc", "bd", 0), "x"), (("bc", "bd", 0), "y")]
        self.assertEqual(len(placed(program, "z", both).words), 20)
        self.refused(TooLarge, program, placed, program, "z", both + [(("", "ba", 0), "x")])

    def test_sixty_rows_and_one_more(self):
        program = Program("p", {"p": ((("do", "a", "add", "a", "b"),) * 58, ("p",))})
        puts = [(("p", "", 3), "a"), (("p", "p", 0), "a")]
        self.assertEqual(len(placed(program, "s", puts).places()), 60)
        for more in ((("p", "", 3), "b"), (("", "p", 0), "b"), (("p", "p", 0), "b")):
            self.refused(TooLarge, program, placed, program, "s", puts + [more])

    def test_rows_of_blocks_that_no_road_comes_to_count(self):
        program = Program("p", {"p": ((), ()), "q": ((("do", "a", "load"),) * 60, ())})
        self.refused(TooLarge, program, placed, program, "s", [(("p", "", 0), "a")])


class CountOn(Case):
    def test_spots_that_are_come_by_several_times(self):
        program = ring()
        road = ("p", "p", "q", "p", "q", "t")
        for spot, due in [(("", "p", 0), 1), (("p", "", 0), 3), (("p", "", 2), 3), (("q", "", 1), 2), (("t", "", 1), 1),
                          (("p", "p", 0), 1), (("p", "q", 0), 2), (("q", "p", 0), 1), (("q", "t", 0), 1), (("t", "", 0), 1)]:
            self.assertEqual(count_on(program, [(spot, "a")], road), due)
            self.assertEqual(count_on(program=program, puts=((spot, "b"), (spot, "a")), road=road), 2 * due)
        self.assertEqual(count_on(program, [], road), 0)
        self.assertEqual(count_on(program, [(("q", "t", 0), "a"), (("", "p", 0), "a")], ("p",)), 1)

    def test_beside_a_walk_with_puts(self):
        chance = random.Random(154)
        for _ in range(60):
            first, blocks, starts = random_program(chance)
            program = Program(first, blocks, starts=starts)
            puts = random_puts(chance, first, blocks, starts, 8)
            for road in all_roads(first, blocks, 5):
                self.assertEqual(count_on(program, puts, road), met(blocks, starts, road, "z", puts)[1])


class Refused(Case):
    def calls(self):
        return [unsure, serves, placed]

    def test_puts_that_are_none(self):
        program = ring()
        fine = (("p", "", 1), "a")
        for bad in [(("p", "", 3), "a"), (("p", "", -1), "a"), (("r", "", 0), "a"), (("r", "p", 0), "a"), (("p", "t", 0), "a"),
                    (("p", "q", 1), "a"), (("", "q", 0), "a"), (("", "", 0), "a"), (("p", "", True), "a"), (("p", "", False), "a"),
                    (("p", "", 1), "c"), (("p", "", 1), "p"), (("p", "", 1), None), (("p", "", 1), "ab"), (("p", "", 1),), fine + ("z",),
                    list(fine), (["p", "", 1], "a"), (("p", 1), "a"), (("p", "", 1, 0), "a"), ("p", "a"), (("p", None, 1), "a"),
                    (("p", "", 1.0), "a"), (("p", [], 1), "a"), (([], "", 1), "a"), (("p", "", []), "a"), (("p", "", 1), []), (("p", "", 1), ("a",)), (("", "p", 1), "a"), (Agreeable(), "a"), (("p", "", 1), Agreeable()),
                    ((Angry(), "", 1), "a"), (("p", Agreeable(), 1), "a"), (("p", "", Agreeable()), "a"), fine[0]] + odd_values():
            for puts in ([bad], (fine, bad), [bad, fine]):
                for call in self.calls():
                    self.refused(BadPuts, puts, call, program, "z", puts)
                self.refused(BadPuts, puts, count_on, program, puts, None)

    def test_twice_the_same(self):
        program = ring()
        fine, other = (("p", "", 1), "a"), (("p", "", 2), "a")
        for puts in ([fine, fine], (fine, other, fine), [fine, (("p", "", 1), "a")]):
            for call in self.calls():
                self.refused(BadPuts, puts, call, program, "z", puts)
            self.refused(BadPuts, puts, count_on, program, puts, ("p",))

    def test_neither_lists_nor_tuples(self):
        fine = (("p", "", 1), "a")
        for bad in [{fine: 1}, {fine}, iter([fine]), "", fine] + odd_values():
            if repr(bad) != "[]":
                for call in self.calls():
                    self.refused(BadPuts, bad, call, ring(), "z", bad)
                self.refused(BadPuts, bad, count_on, ring(), bad, ("p",))

    def test_in_the_told_order(self):
        program = Program("p", {"p": ((("do", "a", "and", "a", "b"), ("do", None, "sdiv", "a", "b")), ("p",))})
        for bad in ["p", RING, Program] + odd_values():
            for call in self.calls():
                self.refused(BadProgram, bad, call, bad, None, None)
            self.refused(BadProgram, bad, count_on, bad, None, None)
        for bad in ["", "zs", "a"] + odd_values():
            for call in self.calls():
                self.refused(BadMark, bad, call, program, bad, None)
        for call in self.calls():
            self.refused(BadPuts, None, call, program, "z", None)
        for call in (unsure, serves):
            with self.assertRaises(NotSimple) as caught:
                call(program, "z", [])
            self.assertEqual(caught.exception.value, ("p", 0))
        for bad in [(), ["p"], ("q",), "p"] + odd_values():
            self.refused(BadRoad, bad, count_on, program, [], bad)

    def test_simple_in_blocks_that_no_road_comes_to(self):
        program = Program("p", {"p": ((), ()), "a": ((("do", "a", "load"), ("widen", "s", "a")), ())})
        for call in (unsure, serves):
            with self.assertRaises(NotSimple) as caught:
                call(program, "z", [])
            self.assertEqual(caught.exception.value, ("a", 1))
            call(program, "s", [])


if __name__ == "__main__":
    unittest.main()
