"""Point [23]: books that were made for each function by itself."""

import random
import unittest

from signskept.books import Book, alone, is_kept
from signskept.errors import BadBooks, BadGroup, TooLarge
from signskept.functions import Function, Group
from signskept.mixed import clashes, keepers
from signskept.tables import is_right
from signskept.wholeruns import Run
from tests.groups import alone_of, calls_in, group_of, random_group, random_promises
from tests.helpers import Agreeable, Angry, Case, odd_values
from tests.plain import explored
from tests.test_joined import NO_GROUPS
from tests.test_tables import shifting

# f calls g in two rows, of which one is in a block that no road comes to; g calls itself.
F = Function("p", {"p": ((("do", "b", "g", "a", "b"),), ()), "q": ((("do", None, "g", "b", "b"), ("do", None, "h")), ("p",))},
             parameters=("a",))
G = Function("p", {"p": ((("do", "x", "g", "y", "x"),), ())}, parameters=("x", "y"), answer="x")
H = Function("p", {"p": ((("do", "c", "loadz"),), ())}, answer="c")


def group(**starts):
    return Group("f", {"f": F, "g": G, "h": H}, starts=starts)


def plain_clashes(told, promises):
    """What one side of a call counts on and the other one does not promise; promises are told for each function."""
    found = set()
    entry = told["entry"]
    for at, name in enumerate(told["functions"][entry][2]):
        beyond = set(promises[entry][entry][0][at]) - set(told["starts"].get(name, ""))
        found.update(("", entry, at, mark) for mark in beyond)
    for caller in told["functions"]:
        for _, callee in calls_in(told, caller):
            mine, theirs = promises[caller][callee], promises[callee][callee]
            for at, want in enumerate(theirs[0]):
                found.update((caller, callee, at, mark) for mark in set(want) - set(mine[0][at]))
            found.update((caller, callee, -1, mark) for mark in set(mine[1]) - set(theirs[1]))
    return sorted(found)


def cases(seed, count, texts=("", "", "z", "s", "zs", "sz"), **named):
    """Groups with promises for each function, as tuples of all that a test needs of them."""
    chance = random.Random(seed)
    for _ in range(count):
        told = random_group(chance, **named)
        one = group_of(told)
        base = random_promises(chance, told, texts, True)
        promises = {}
        for word in one.words:
            # Often what all agree on, with a change here and there.
            other = random_promises(chance, told, texts)
            promises[word] = {key: other[key] if chance.random() < 0.15 else base[key] for key in one.words}
        yield chance, told, one, promises, {word: Book(group_of(told), promises[word]) for word in one.words}


class Clashes(Case):
    def test_beside_another_reckoning(self):
        kinds = set()
        for chance, told, one, promises, books in cases(230, 300, many=4):
            due = plain_clashes(told, promises)
            self.assertEqual(clashes(one, books), due)
            self.assertEqual(clashes(group=one, books=dict(reversed(list(books.items())))), due)
            kinds.add(not due)
            kinds.update("start" if caller == "" else "answer" if at < 0 else "parameter" for caller, _, at, _ in due)
        self.assertEqual(kinds, {True, False, "start", "answer", "parameter"})

    def test_each_kind_by_hand(self):
        one = group(a="z")
        alike = Book(one, {"f": (("z",), ""), "g": (("z", "s"), "z"), "h": ((), "zs")})
        books = {"f": alike, "g": alike, "h": alike}
        self.assertEqual(clashes(one, books), [])
        self.assertEqual(clashes(one, {**books, "f": Book(one)}), [("f", "g", 0, "z"), ("f", "g", 1, "s")])
        self.assertEqual(clashes(one, {**books, "g": Book(one)}), [("f", "g", -1, "z")])
        self.assertEqual(clashes(one, {**books, "h": Book(one)}), [("f", "h", -1, "s"), ("f", "h", -1, "z")])
        # What a book promises of functions that are not called, or that are called by others, does not count.
        other = Book(one, {"g": (("z", "s"), "z"), "h": ((), "z"), "f": (("z",), "")})
        self.assertEqual(clashes(one, {**books, "g": other}), [])
        more = Book(one, {"f": (("zs",), ""), "g": (("z", "s"), "z"), "h": ((), "zs")})
        self.assertEqual(clashes(one, {**books, "g": more}), [])
        self.assertEqual(clashes(one, {**books, "f": more}), [("", "f", 0, "s")])
        self.assertEqual(clashes(group(), {"f": Book(group(), {"f": (("sz",), "")}), "g": Book(group()), "h": Book(group())}),
                         [("", "f", 0, "s"), ("", "f", 0, "z")])
        whole = Book(one, {"f": (("zs",), ""), "g": (("zs", "zs"), "zs"), "h": ((), "zs")})
        self.assertEqual(clashes(one, {"f": whole, "g": Book(one, {"g": (("", "zs"), "s")}), "h": whole}),
                         [("", "f", 0, "s"), ("f", "g", -1, "z")])
        self.assertEqual(clashes(one, {"f": Book(one), "g": whole, "h": Book(one)}),
                         [("f", "g", 0, "s"), ("f", "g", 0, "z"), ("f", "g", 1, "s"), ("f", "g", 1, "z")])

    def test_new_each_time(self):
        one = group()
        books = {"f": Book(one), "g": Book(one, {"g": (("z", ""), "")}), "h": Book(one)}
        clashes(one, books).clear()
        self.assertEqual([clashes(one, books), len(books)], [[("f", "g", 0, "z")], 3])


class Keepers(Case):
    def test_beside_a_search(self):
        kinds = {True: 0, False: 0}
        for chance, told, one, promises, books in cases(231, 150, many_names=2):
            due = []
            for word in one.words:
                first, blocks, starts, rules = alone_of(told, word, promises[word])
                if not explored(first, blocks, starts, rules)[1]:
                    due.append(word)
                kinds[due[-1:] == [word]] += 1
                self.assertIs(is_right(alone(one, word, books[word])), word in due)
            self.assertEqual(keepers(one, books), due)
            self.assertEqual(keepers(group=one, books=books), due)
        self.assertGreater(min(kinds.values()), 50)

    def test_starts_do_not_count(self):
        one = Group("f", {"f": Function("p", {"p": ((("do", None, "shr", "a"),), ())}, parameters=("a",))})
        self.assertEqual(keepers(one, {"f": Book(one, {"f": (("z",), "")})}), ["f"])
        self.assertEqual(keepers(one, {"f": Book(one)}), [])
        self.assertIs(is_kept(one, Book(one, {"f": (("z",), "")})), False)

    def test_tables_that_are_too_large(self):
        one = Group("a", {"a": Function("p", {"p": ((), ())}), "large": Function("h", shifting(12, 1))})
        books = {"a": Book(one), "large": Book(one)}
        with self.assertRaises(TooLarge) as caught:
            keepers(one, books)
        self.assertEqual(caught.exception.value, alone(one, "large", Book(one)))
        self.assertEqual(clashes(one, books), [])

    def test_all_keep_and_nothing_clashes(self):
        # Then no run has fails, whatever the books are; the books are not all the same.
        many, unlike = 0, 0
        for chance, told, one, promises, books in cases(232, 900, many_names=2):
            if clashes(one, books) or keepers(one, books) != list(one.words):
                continue
            for _ in range(4):
                turns = [chance.randint(0, 1) for _ in range(chance.randint(0, 30))]
                self.assertEqual(Run(one, turns, most=100).fails(), [])
            many += 1
            unlike += any(books[word] != books[one.entry] for word in one.words)
        self.assertGreater(many, 100)
        self.assertGreater(unlike, 30)

    def test_one_book_for_all(self):
        for chance, told, one, promises, books in cases(233, 100, many_names=2):
            book = books[one.entry]
            same = {word: book for word in one.words}
            kept = keepers(one, same) == list(one.words) and not clashes(one, same)
            self.assertIs(is_kept(one, book), kept)
            self.assertTrue(all(caller == "" for caller, _, _, _ in clashes(one, same)))


class Refused(Case):
    def test_what_is_refused(self):
        one = group()
        book, other = Book(one), Book(group(a="z"))
        for bad in NO_GROUPS:
            self.refused(BadGroup, bad, clashes, bad, None)
            self.refused(BadGroup, bad, keepers, bad, None)
        fine = {"f": book, "g": book, "h": Book(group())}
        self.assertEqual(clashes(one, fine), [])
        for bad in [{"f": book, "g": book}, {**fine, "k": book}, {"f": book, "g": book, "k": book}, {**fine, "h": other}, {**fine, "f": None},
                    {**fine, "g": {}}, {**fine, "g": Agreeable()}, {**fine, "g": Angry()}, {"f": book, "g": book, None: book},
                    {"f": book, "g": book, 0: book}, {"f": book, "g": book, Agreeable(): book}, list(fine.items()), book, [book] * 3, Book] + odd_values():
            self.refused(BadBooks, bad, clashes, one, bad)
            self.refused(BadBooks, bad, keepers, one, bad)
        self.assertEqual(sorted(fine), ["f", "g", "h"])


if __name__ == "__main__":
    unittest.main()
