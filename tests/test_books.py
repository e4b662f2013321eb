"""Point [19]: books, functions alone, and books that are kept."""

import random
import unittest

from signskept.books import Book, alone, is_kept
from signskept.dresses import Dress
from signskept.errors import (BadBook, BadFunction, BadGroup, BadPromise, BadPromises, NoFunction, TooLarge, Unlike)
from signskept.functions import Function, Group
from signskept.operations import Operation
from signskept.programs import Program
from signskept.tables import verdicts
from signskept.wides import Wide
from tests.groups import (alone_of, calls_in, group_of, no_promises, operations_of, random_group, random_promises)
from tests.helpers import Agreeable, Angry, Case, odd_values
from tests.plain import explored
from tests.test_tables import shifting

ORDERED = {"": "", "z": "z", "s": "s", "zs": "zs", "sz": "zs"}


def functions():
    """f calls g and itself, g calls nothing and has no answer, h has neither parameters nor an answer."""
    table = {"mix": Operation(2, (("z", ""), ("", "s")), z=(("z", "z"),))}
    return {"f": Function("p", {"p": ((("do", None, "g", "a", "b", "a"), ("do", "b", "f", "b", "a")), ("q", "t", )),
                                "q": ((("do", "c", "mix", "a", "b"),), ()), "t": ((), ())},
                          parameters=("a", "b"), answer="b", table=table),
            "g": Function("g", {"g": ((), ("g",))}, parameters=("x", "y", "z")), "h": Function("p", {"p": ((), ())})}


def group(**starts):
    return Group("f", functions(), starts=starts)


PROMISES = {"f": (("z", "sz"), "s"), "g": (("", "s", "zs"), "")}
NO_GROUPS = ["f", {}, Group, Function, functions(), functions()["f"]] + odd_values()


def bad_promises():
    """Values that are no promises of f."""
    return [(("z",), "s"), (("z", "s", ""), "s"), ((), "s"), ("z", "s", "s"), (("z", "s"),), (("z", "s"), "s", ""), (["z", "s"], "s"),
            [("z", "s"), "s"], (("z", "zz"), "s"), (("z", "-"), "s"), (("z", None), "s"), (("z", ("s",)), "s"), (("z", Dress("s")), "s"),
            (("z", "s"), None), (("z", "s"), Dress("s")), (("z", "s"), "ss"), (("z", "s"), ["s"]), (("z", "s"), Agreeable()),
            ((Agreeable(), "s"), "s"), (Angry(), "s"), (("z", Angry()), "s"), (Agreeable(), "s"), "zs", ("zs", "s"), ({"z", "s"}, "s")
            ] + odd_values()


def told_books(seed, count, **named):
    """Groups with promises, as tuples of all that a test needs of them."""
    chance = random.Random(seed)
    for _ in range(count):
        told = random_group(chance, **named)
        promises = random_promises(chance, told)
        yield chance, told, group_of(told), promises


class Books(Case):
    def test_items(self):
        book = Book(group(), PROMISES)
        self.assertEqual([book["f"], book["g"], book["h"]], [(("z", "zs"), "s"), (("", "s", "zs"), ""), ((), "")])
        self.assertEqual(len(book), 7)
        empty = Book(group=group())
        self.assertEqual([empty["f"], empty["g"], empty["h"], len(empty)], [(("", ""), ""), (("", "", ""), ""), ((), ""), 0])
        for none in (None, {}):
            self.assertEqual(Book(group=group(), promises=none), empty)
        self.assertEqual(len(Book(group(), {"f": (("", ""), "")})), 0)

    def test_setting_items(self):
        book = Book(group(), PROMISES)
        book["f"] = (("sz", ""), "zs")
        self.assertEqual([book["f"], len(book)], [(("zs", ""), "zs"), 7])
        book["h"] = ((), "")
        book["g"] = (("", "", ""), "")
        self.assertEqual([book["h"], book["g"], len(book)], [((), ""), (("", "", ""), ""), 4])

    def test_what_is_refused_changes_nothing(self):
        book, same = Book(group(), PROMISES), Book(group(), PROMISES)
        for bad in ["", "p", "mix", "k", "load", "return", ("f",), 0] + odd_values():
            self.refused(NoFunction, bad, lambda: book[bad])
            self.refused(NoFunction, bad, book.__setitem__, bad, None)
        for bad in bad_promises():
            self.refused(BadPromise, bad, book.__setitem__, "f", bad)
            self.refused(BadPromises, given := {"f": bad}, Book, group(), given)
            self.refused(BadPromises, given := {"g": PROMISES["g"], "f": bad}, Book, group(), given)
        # g has no answer, and h no parameters.
        for word, bad in [("g", (("", "", ""), "z")), ("g", (("", ""), "")), ("h", (("",), "")), ("h", ((), "s")), ("h", ("", ""))]:
            self.refused(BadPromise, bad, book.__setitem__, word, bad)
            self.refused(BadPromises, given := {word: bad}, Book, group(), given)
        self.assertEqual(book, same)

    def test_promises_that_are_none(self):
        fine = PROMISES["f"]
        for bad in [{"k": fine}, {"f": fine, "k": fine}, {None: fine}, {0: fine}, {("f",): fine}, {Agreeable(): fine}, [("f", fine)],
                    ("f", fine), Book(group()), 0, False, "", (), [], "f"] + odd_values():
            if bad is not None and repr(bad) != "{}":
                self.refused(BadPromises, bad, Book, group(), bad)
        for bad in NO_GROUPS:
            self.refused(BadGroup, bad, Book, bad)
            self.refused(BadGroup, bad, Book, bad, 1)

    def test_own_copies(self):
        given = dict(PROMISES)
        book = Book(group(), given)
        given["f"] = None
        given.clear()
        self.assertEqual(book, Book(group(), PROMISES))
        Book(group(), given)["f"] = (("z", "z"), "z")
        self.assertEqual(given, {})
        other = book | Book(group())
        other["f"] = (("", ""), "")
        third = book & book
        third["g"] = (("", "", ""), "")
        self.assertEqual(book, Book(group(), PROMISES))
        book["f"] = (("", ""), "z")
        self.assertEqual([other["f"], third["f"]], [(("", ""), ""), (("z", "zs"), "s")])

    def test_it_is_not_iterated_over(self):
        self.assertRaises(TypeError, list, Book(group()))


class Together(Case):
    def test_beside_sets(self):
        for chance, told, one_group, promises in told_books(190, 60):
            more = random_promises(chance, told)
            one, other = Book(one_group, promises), Book(group_of(told), more)
            both, either = one & other, one | other
            self.assertEqual([one, other], [Book(one_group, promises), Book(one_group, more)])
            within = True
            for word in one_group.words:
                texts = list(zip(promises[word][0] + promises[word][1:], more[word][0] + more[word][1:]))
                shared = [ORDERED["".join(mark for mark in "zs" if mark in a and mark in b)] for a, b in texts]
                joined = [ORDERED["".join(mark for mark in "zs" if mark in a or mark in b)] for a, b in texts]
                self.assertEqual([both[word], either[word]], [(tuple(told[:-1]), told[-1]) for told in (shared, joined)])
                within = within and all(set(a) <= set(b) for a, b in texts)
            self.assertEqual(len(one), sum(len("".join(wants) + gives) for wants, gives in promises.values()))
            self.assertIs(one.within(other), within)
            self.assertEqual([both.within(one), both.within(other=other), one.within(either), other.within(either), one.within(one)],
                             [True] * 5)
            self.assertIs(one == other, all(one[word] == other[word] for word in one_group.words))
            self.assertIs(one != other, not one == other)

    def test_by_hand(self):
        one, other = Book(group(), PROMISES), Book(group(), {"f": (("zs", "z"), ""), "g": (("z", "", ""), "")})
        self.assertEqual([(one & other)[word] for word in "fgh"], [(("z", "z"), ""), (("", "", ""), ""), ((), "")])
        self.assertEqual([(one | other)[word] for word in "fgh"], [(("zs", "zs"), "s"), (("z", "s", "zs"), ""), ((), "")])
        self.assertEqual([one.within(other), other.within(one), Book(group()).within(one), one.within(Book(group()))],
                         [False, False, True, False])
        name = one
        name &= other
        self.assertEqual([name, one["f"]], [one & other, (("z", "zs"), "s")])
        name |= one
        self.assertEqual(name, one)
        self.assertIsNot(name, one)

    def test_unlike(self):
        book = Book(group(), PROMISES)
        others = [Book(group(a="z")), Book(Group("g", functions())), Book(Group("f", {**functions(), "h": Function("q", {"q": ((), ())})})),
                  Dress("z"), Wide(1, narrow=2, wide=4), PROMISES, group(), "z", Agreeable(), Angry()] + odd_values()
        for bad in others:
            self.refused(Unlike, bad, lambda: book & bad)
            self.refused(Unlike, bad, lambda: book | bad)
            self.refused(Unlike, bad, book.within, bad)

        def joined(bad):
            name = book
            name |= bad
        for bad in others:
            self.refused(Unlike, bad, joined, bad)
        self.assertEqual(book, Book(group(), PROMISES))

    def test_equality(self):
        book = Book(group(), PROMISES)
        self.assertEqual(book, Book(group(), {"g": (("", "s", "sz"), ""), "f": (("z", "zs"), "s"), "h": ((), "")}))
        self.assertFalse(book != Book(group(), PROMISES))
        others = [Book(group(a="z"), PROMISES), Book(group()), Book(group(), {**PROMISES, "f": (("z", "z"), "s")}),
                  Book(group(), {**PROMISES, "f": (("z", "zs"), "")}), Book(Group("h", functions()), PROMISES)]
        for other in others + [PROMISES, group(), None, 7]:
            self.assertFalse(book == other)
            self.assertTrue(book != other)
        self.assertEqual(Book(group(b="zs", a="")), Book(group(b="sz")))


class Alone(Case):
    def test_by_hand(self):
        table = {"mix": Operation(2, (("z", ""), ("", "s")), z=(("z", "z"),)), "g": Operation(3, (("", "s", "zs"),)),
                 "f": Operation(2, (("z", "zs"),), s=(("", ""),)), "return": Operation(1, (("s",),))}
        blocks = {"p": ((("do", None, "g", "a", "b", "a"), ("do", "b", "f", "b", "a")), ("q", "t")),
                  "q": ((("do", "c", "mix", "a", "b"), ("do", None, "return", "b")), ()), "t": ((("do", None, "return", "b"),), ())}
        due = Program("p", blocks, starts={"a": "z", "b": "zs"}, table=table)
        self.assertEqual(alone(group=group(), word="f", book=Book(group(), PROMISES)), due)
        self.assertEqual(alone(group(), "g", Book(group(), PROMISES)),
                         Program("g", {"g": ((), ("g",))}, starts={"x": "", "y": "s", "z": "zs"}))
        self.assertEqual(alone(group(), "h", Book(group())), Program("p", {"p": ((), ())}))
        # What calls need and give when nothing, or both marks, are promised.
        table = {**table, "g": Operation(3), "f": Operation(2), "return": Operation(1)}
        self.assertEqual(alone(group(), "f", Book(group())), Program("p", blocks, starts={"a": "", "b": ""}, table=table))
        table = {**table, "f": Operation(2, z=(("", ""),), s=(("", ""),)), "return": Operation(1, (("zs",),))}
        self.assertEqual(alone(group(), "f", Book(group(), {"f": (("", ""), "sz")})),
                         Program("p", blocks, starts={"a": "", "b": ""}, table=table))

    def test_the_starts_of_the_group_are_not_those_of_the_entry(self):
        self.assertEqual(alone(group(a="zs"), "f", Book(group(a="zs"))), alone(group(), "f", Book(group())))

    def test_beside_programs_of_the_same_rows(self):
        kinds = set()
        for chance, told, one_group, promises in told_books(191, 120, many=4, own=2):
            book = Book(one_group, promises)
            for word in one_group.words:
                first, blocks, starts, _ = alone_of(told, word, promises)
                _, _, parameters, answer, own = told["functions"][word]
                table = operations_of(own)
                called = {callee for _, callee in calls_in(told, word)}
                for callee in called:
                    wants, gives = promises[callee]
                    given = {mark: ((("",) * len(wants)),) if mark in gives else () for mark in "zs"}
                    table[callee] = Operation(len(wants), (tuple(ORDERED[want] for want in wants),), z=given["z"], s=given["s"])
                if answer is not None:
                    table["return"] = Operation(1, ((ORDERED[promises[word][1]],),))
                due = Program(first, blocks, starts=starts, table=table)
                self.assertEqual(alone(one_group, word, book), due)
                self.assertEqual(alone(group_of(told), word, book).variables, one_group.variables_in(word))
                kinds.add((answer is not None, word in called))
        self.assertEqual(len(kinds), 4)

    def test_functions_of_the_greatest_size(self):
        # Twenty blocks without goes, forty rows, eight words in the table, twelve variables.
        words = "abcdefghijklmnopqrst"
        row = ("do", "va", "f", "vb", "vc")
        blocks = {word: ((row, ("do", "v" + word, "own" + "xyz"[at % 3])) if at < 10 else (row, row), ()) for at, word in enumerate(words)}
        table = {"own" + letter: Operation(0, z=((),)) for letter in "xyz"}
        calls = {word: ((("do", None, word),) * 2, ()) for word in "gh"}
        blocks["s"], blocks["t"] = calls["g"], (calls["h"][0][:1] + (("do", "vl", "k"),), ())
        one = Function("a", blocks, parameters=("vb", "vk"), answer="va", table=table)
        given = {"f": one, "g": Function("p", {"p": ((), ())}), "h": Function("p", {"p": ((), ())}),
                 "k": Function("p", {"p": ((), ())}, parameters=(), answer=None)}
        self.refused(BadFunction, "f", Group, "f", given)
        given["k"] = Function("p", {"p": ((("do", "x", "load"),), ())}, answer="x")
        whole = Group("f", given)
        program = alone(whole, "f", Book(whole, {"f": (("z", ""), "s"), "k": ((), "zs")}))
        self.assertEqual([len(program.places()), len(program.words), len(program.variables)], [60, 20, 12])
        self.assertEqual(program.operation("k"), Operation(0, z=((),), s=((),)))
        self.assertEqual([program.operation(word).arity for word in ("return", "f", "g", "h", "ownx")], [1, 2, 0, 0, 0])

    def test_what_is_refused_in_the_told_order(self):
        book = Book(group(), PROMISES)
        for bad in NO_GROUPS:
            self.refused(BadGroup, bad, alone, bad, None, None)
            self.refused(BadGroup, bad, is_kept, bad, None)
        for bad in ["", "k", "p", "return", "mix", ("f",)] + odd_values():
            self.refused(NoFunction, bad, alone, group(), bad, None)
        for bad in [Book(group(a="z")), PROMISES, Book, group(), Agreeable(), Angry()] + odd_values():
            self.refused(BadBook, bad, alone, group(), "f", bad)
            self.refused(BadBook, bad, is_kept, group(), bad)
        self.assertEqual(book, Book(group(), PROMISES))


class Kept(Case):
    def test_beside_a_walk_through_all_functions(self):
        kinds = {True: 0, False: 0}
        for chance, told, one_group, _ in told_books(192, 150, many_names=2):
            for _ in range(4):
                promises = random_promises(chance, told, ("", "", "z", "s", "zs"), chance.random() < 0.8)
                if chance.random() < 0.3:
                    promises = no_promises(told)
                book = Book(one_group, promises)
                due = all(mark in told["starts"].get(name, "") for name, want in
                          zip(told["functions"][told["entry"]][2], promises[told["entry"]][0]) for mark in want)
                for word in one_group.words:
                    first, blocks, starts, rules = alone_of(told, word, promises)
                    _, fails = explored(first, blocks, starts, rules)
                    due = due and not fails
                    self.assertEqual(sorted(fails), [one.place for one in verdicts(alone(one_group, word, book)) if one])
                self.assertIs(is_kept(one_group, book), due)
                kinds[due] += 1
        self.assertGreater(min(kinds.values()), 60)

    def test_by_hand(self):
        # f hands its parameter to g, which needs it; g answers it again.
        given = {"f": Function("p", {"p": ((("do", "b", "g", "a"), ("do", None, "shr", "b")), ())}, parameters=("a",)),
                 "g": Function("p", {"p": ((("do", None, "udiv", "x", "x"),), ())}, parameters=("x",), answer="x")}
        one = Group("f", given, starts={"a": "z"})
        right = {"f": (("z",), ""), "g": (("z",), "z")}
        self.assertIs(is_kept(group=one, book=Book(one, right)), True)
        for word, bad in [("f", (("",), "")), ("g", (("",), "z")), ("g", (("z",), "")), ("g", (("z",), "s")), ("g", (("z",), "zs")),
                          ("f", (("zs",), "")), ("f", (("s",), "")), ("g", (("s",), "z"))]:
            self.assertIs(is_kept(one, Book(one, {**right, word: bad})), False)
        self.assertIs(is_kept(Group("f", given), Book(Group("f", given), right)), False)
        self.assertIs(is_kept(Group("g", given), Book(Group("g", given), right)), False)
        other = Group("g", given, starts={"x": "sz"})
        self.assertIs(is_kept(other, Book(other, right)), True)

    def large(self, **starts):
        blocks = shifting(12, 3)
        large = Function("h", blocks, parameters=("va",))
        return Group("large", {"large": large, "small": Function("p", {"p": ((("do", None, "shr", "a"),), ())})}, starts=starts)

    def test_tables_that_are_too_large(self):
        one = self.large()
        with self.assertRaises(TooLarge) as caught:
            is_kept(one, Book(one))
        self.assertEqual(caught.exception.value, alone(one, "large", Book(one)))

    def test_no_table_is_needed_for_a_book_beyond_starts(self):
        one = self.large(va="s")
        self.assertIs(is_kept(one, Book(one, {"large": (("z",), "")})), False)
        self.assertIs(is_kept(one, Book(one, {"large": (("zs",), "")})), False)
        self.assertRaises(TooLarge, is_kept, one, Book(one, {"large": (("s",), "")}))


if __name__ == "__main__":
    unittest.main()
