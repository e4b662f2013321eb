"""Points [3], [7], [8], [9], [19], [27]: equality, own copies, and the far ends of what may be handed in."""

import itertools
import random
import unittest

from signskept.books import Book, alone, is_kept
from signskept.cuts import Cheapest
from signskept.dresses import Dress
from signskept.drafts import Draft, tried
from signskept.errors import BadTable, NothingToUndo
from signskept.functions import Function, Group
from signskept.known import difference, known, known_words, narrowly, reckon
from signskept.operations import Operation
from signskept.plays import Play
from signskept.programs import Program
from signskept.roads import Walk, is_road, roads
from signskept.tables import Table, verdict
from signskept.wholeruns import Run
from signskept.wides import Wide
from tests.helpers import Agreeable, Angry, Case, odd_values
from tests.plain import OPERATIONS, can_differ, differs, true_marks, walked, with_table

LETTERS = "abcdefghijklmnopqrstuvwxyz"
# Eight operations of three operands, each with four rows everywhere.
WANTS = (("z", "", "s"), ("", "zs", ""), ("s", "s", "s"), ("z", "z", "z"))
EIGHT = {"own" + letter: (3, WANTS[at % 4:] + WANTS[:at % 4], WANTS[:at % 5], WANTS[at % 3:]) for at, letter in enumerate(LETTERS[:8])}


def twenty(rows):
    """Twenty blocks in a line, which at its end begins anew or goes on at the last block, with some rows each."""
    words = LETTERS[:20]
    return {word: (tuple(rows[at * 3:at * 3 + 3]), (words[at + 1],) if at < 19 else ("t", "a")) for at, word in enumerate(words)}


def greatest():
    """A program of twenty blocks, sixty rows, twelve variables and eight own operations, and what it is made of."""
    chance = random.Random(8)
    names = ["v" + letter for letter in LETTERS[:12]]
    rows = [("do", names[at % 12], "own" + LETTERS[at % 8]) + tuple(chance.sample(names, 3)) for at in range(60)]
    blocks = twenty(rows)
    starts = {name: "sz" for name in names}
    table = {word: Operation(parts[0], parts[1], z=parts[2], s=parts[3]) for word, parts in EIGHT.items()}
    return Program("a", blocks, starts=starts, table=table), blocks, starts, table


class Programs(Case):
    def test_the_greatest_program(self):
        program, blocks, starts, table = greatest()
        self.assertEqual([len(program.words), len(program.places()), len(program.variables)], [20, 60, 12])
        self.assertEqual(program, Program("a", dict(blocks), starts={name: "zs" for name in starts}, table=dict(table)))
        turned = Program("a", {word: blocks[word] for word in sorted(blocks, reverse=True)}, starts=starts,
                         table={word: table[word] for word in sorted(table, reverse=True)})
        self.assertEqual(program, turned)
        for word in table:
            self.assertEqual(program.operation(word), table[word])
            other = Operation(3, table[word].needs, z=table[word].s, s=table[word].z)
            self.assertEqual(program == Program("a", blocks, starts=starts, table={**table, word: other}), other == table[word])
        for name in starts:
            self.assertFalse(program == Program("a", blocks, starts={**starts, name: "z"}, table=table))
        for word in blocks:
            self.assertFalse(program == Program("a", {**blocks, word: (blocks[word][0][::-1], blocks[word][1])}, starts=starts, table=table))
        self.refused(BadTable, nine := {**table, "nine": Operation(0)}, Program, "a", blocks, starts=starts, table=nine)

    def test_own_copies(self):
        program, blocks, starts, table = greatest()
        same, _, _, _ = greatest()
        blocks.clear()
        starts.clear()
        table.clear()
        program.starts().clear()
        self.assertEqual(program, same)
        self.assertEqual([len(program.places()), program.operation("ownh")], [60, same.operation("ownh")])
        walk, table = Walk(program, ("a", "b")), Table(program)
        self.assertEqual([walk, len(table)], [Walk(same, ("a", "b")), len(Table(same))])

    def test_equal_to_nothing_of_another_kind(self):
        program, _, _, _ = greatest()
        group = Group("f", {"f": Function("p", {"p": ((), ())})})
        things = [program, Walk(program, ("a",)), Draft(program), Operation(1), Dress("z"), Wide(0, narrow=2, wide=4), group,
                  Book(group), Function("p", {"p": ((), ())}), Run(group, []), Cheapest(Program("p", {"p": ((), ())}), "z"), Table(program)]
        values = [value for value in odd_values() if not isinstance(value, (Agreeable, Angry))]
        for at, one in enumerate(things):
            for other in things[:at] + things[at + 1:] + values:
                self.assertFalse(one == other)
                self.assertTrue(one != other)


class Roads(Case):
    def test_forty_roads_of_a_block_that_goes_to_itself(self):
        program = Program("p", {"p": ((("do", "a", "not", "a"),), ("p",))}, starts={"a": "s"})
        found = list(roads(program, 40))
        self.assertEqual(found, [("p",) * many for many in range(1, 41)])
        walk = Walk(program, ("p",))
        for road in found[1:]:
            walk = walk + "p"
            self.assertEqual(walk, Walk(program, road))
            self.assertFalse(walk == Walk(program, road[1:]))
        self.assertEqual([len(walk), walk["a"], walk.road], [40, Dress("s"), ("p",) * 40])
        self.assertEqual(list(roads(program, 40)), found)

    def test_roads_through_twenty_blocks(self):
        program, blocks, starts, _ = greatest()
        found = list(roads(program, 40))
        # With so many blocks more than twenty, the last one of the twenty was on the road once, or once more, and so on.
        self.assertEqual(len(found), 20 + sum(more + 1 for more in range(1, 21)))
        self.assertTrue(all(is_road(program, road) for road in found))
        table = with_table(EIGHT)
        for road in (found[19], found[-1], found[100]):
            steps, behind, fails = walked(blocks, starts, road, table)
            walk = Walk(program, road)
            self.assertEqual([walk.steps, walk.dresses(), walk.fails()], [steps, behind, fails])

    def test_equality_of_walks(self):
        program, _, _, _ = greatest()
        same, _, _, _ = greatest()
        self.assertEqual(Walk(program, ("a", "b")), Walk(same, ("a", "b")))
        self.assertFalse(Walk(program, ("a", "b")) == Walk(program, ("a",)))
        self.assertFalse(Walk(program, ("a",)) == Walk(program.without([("t", 2)]), ("a",)))


class SevenBits(Case):
    def test_differences_of_registers_of_seven_bits(self):
        chance = random.Random(7)
        for word in known_words():
            arity = known(word).arity
            if arity == 0 or word == "store":
                continue
            rows = list(itertools.product(["", "z", "s", "zs"], repeat=arity))
            for narrow in (2, 5):
                row = chance.choice(rows)
                found = difference(word, list(row), narrow=narrow, wide=7)
                need = OPERATIONS[word][1](*[set(text) for text in row])
                if need:
                    self.assertIsNone(found)
                if found is None:
                    self.assertFalse(can_differ(word, row, narrow, 7))
                else:
                    self.assertTrue(differs(word, [one.bits for one in found], narrow, 7))
                    self.assertTrue(all(set(text) <= true_marks(one.bits, narrow, 7) for text, one in zip(row, found)))
                    self.assertNotEqual(reckon(word, found).low, narrowly(word, found))

    def test_equality_of_what_is_told(self):
        found = difference("shr", [""], narrow=5, wide=7)
        again = difference("shr", ("",), narrow=5, wide=7)
        self.assertEqual(found, again)
        self.assertIsInstance(found, tuple)
        self.assertEqual([(one.narrow, one.wide) for one in found], [(5, 7)])
        known_words().clear()
        self.assertEqual(len(known_words()), 23)
        self.assertEqual(known("shr"), known("shr"))


class Books(Case):
    def four(self):
        """Four functions of three parameters each, with a table of three words, that call one another."""
        table = {"my" + letter: Operation(3, WANTS, z=WANTS[:1], s=WANTS[1:3]) for letter in LETTERS[:3]}
        given = {}
        for word in "fghk":
            rows = tuple(("do", "a", other, "a", "b", "c") for other in "fghk") + (("do", "b", "mya", "c", "b", "a"),)
            given[word] = Function("p", {"p": (rows, ("p", "q")), "q": ((), ())}, parameters=("a", "b", "c"), answer="b", table=table)
        return Group("f", given, starts={"a": "sz", "c": "s"})

    def test_all_promised(self):
        group = self.four()
        whole = Book(group, {word: (("zs", "sz", "zs"), "sz") for word in "fghk"})
        self.assertEqual([len(whole), len(Book(group))], [32, 0])
        self.assertEqual(whole, Book(self.four(), {word: (("sz", "zs", "sz"), "zs") for word in "khgf"}))
        self.assertEqual([whole & Book(group), whole | Book(group), Book(self.four()) | whole], [Book(group), whole, whole])
        for word in "fghk":
            for at in range(4):
                less = Book(group, {other: (("zs",) * 3, "zs") for other in "fghk"})
                texts = ["zs"] * 4
                texts[at] = "z"
                less[word] = (tuple(texts[:3]), texts[3])
                self.assertFalse(less == whole)
                self.assertEqual([less.within(whole), whole.within(less), len(less)], [True, False, 31])
            self.assertEqual(len(alone(group, word, whole).places()), 6)
        self.assertIs(is_kept(group, whole), False)

    def test_copies_of_books(self):
        group = self.four()
        first = Book(group)
        given = {"f": (("z", "", ""), "")}
        second = Book(group, given)
        given["f"] = (("s", "", ""), "")
        third = first | second
        third["f"] = (("zs", "zs", "zs"), "zs")
        self.assertEqual([first["f"], second["f"]], [(("", "", ""), ""), (("z", "", ""), "")])
        program = alone(group, "f", second)
        second["f"] = (("", "", ""), "")
        self.assertEqual(program.starts()["a"], Dress("z"))
        self.assertEqual(second, first)


class Drafts(Case):
    def test_a_draft_of_the_greatest_program(self):
        program, _, _, table = greatest()
        draft = Draft(program)
        history = [draft.copy()]
        for place in program.places():
            draft[place] = ("widen", "s", "va")
            history.append(draft.copy())
        self.assertEqual(len(draft), 60)
        self.assertEqual(draft.now().variables, program.variables)
        for place in program.places()[::-1]:
            self.assertEqual(draft, history.pop())
            draft.undo()
            self.assertEqual([draft.now()[place], draft == history[-1]], [program[place], True])
        self.assertEqual(draft, Draft(program))
        self.assertRaises(NothingToUndo, draft.undo)

    def test_many_changes(self):
        program = Program("p", {"p": ((("move", "a", "b"),), ("p",))})
        draft, other = Draft(program), Draft(program)
        for at in range(200):
            draft["p", 0] = ("widen", "zs"[at % 2], "a")
            other["p", 0] = ("widen", "zs"[at % 2], "a")
        self.assertEqual([draft, len(draft)], [other, 200])
        other.undo()
        self.assertFalse(draft == other)
        other["p", 0] = ("widen", "s", "a")
        self.assertEqual(draft, other)
        # One earlier program that is another one is enough.
        third = Draft(program)
        for at in range(200):
            third["p", 0] = ("widen", "zs"[at % 2] if at != 50 else "s", "a")
        self.assertEqual([third.now() == draft.now(), third == draft], [True, False])

    def test_copies_and_what_was_handed_in(self):
        program, _, _, _ = greatest()
        draft = Draft(program)
        places, edits = [("a", 0)], [("out", [("a", 0)]), ("row", ("a", 0), ("widen", "z", "va"))]
        draft.take_out(places)
        places.append(("b", 0))
        now = tried(draft, edits)
        edits[0][1].append(("b", 0))
        edits.clear()
        self.assertEqual([draft.now(), len(draft)], [now, 3])
        self.assertEqual(now, program.without([("a", 0), ("a", 1)]).with_row(("a", 0), ("widen", "z", "va")))
        copy = draft.copy()
        copy.undo()
        self.assertEqual([len(copy), len(draft), draft.now()], [2, 3, now])


class Runs(Case):
    def test_lists_are_new_each_time(self):
        program = Program("p", {"p": ((("do", "a", "load"), ("do", None, "shr", "a")), ("p",))})
        play = Play(program, ("p",), ((6,), (6, 6)), narrow=2, wide=4)
        table, told = Table(program), verdict(program, ("p", 0))
        for ask in (play.fails, lambda: play.wides(0), lambda: table.entries, lambda: told.entries, program.places,
                    program.widenings, program.starts, lambda: Walk(program, ("p",)).steps):
            first, again = ask(), ask()
            self.assertEqual(first, again)
            self.assertIsNot(first, again)
            first.clear()
            self.assertEqual(ask(), again)


if __name__ == "__main__":
    unittest.main()
