"""Point [21]: plain books, what they cost, and the best one."""

import itertools
import unittest

from signskept.bestbooks import BestBook, book_cost, plain_books
from signskept.books import Book, alone, is_kept
from signskept.cuts import Cheapest, cost_of
from signskept.errors import BadBook, BadFrequencies, BadGroup, BadMark, NotSimple, TooMany
from signskept.functions import Function, Group
from signskept.joined import joined_sum
from signskept.puts import placed, serves
from signskept.tables import is_right
from tests.groups import Paths, alone_of, needs_of
from tests.helpers import Agreeable, Angry, Case, odd_values
from tests.test_cuts import NO_MARKS, bad_frequencies, least_cost
from tests.test_joined import F, FREE, G, NO_GROUPS, cases, group


def heads(*told, entry="f", **starts):
    """A group of functions without rows, told by numbers of parameters and whether they answer."""
    functions = {}
    for word, (many, answers) in zip("fghk", told):
        names = tuple("abc"[:many])
        functions[word] = Function("p", {"p": ((("do", "x", "load"),), ())}, parameters=names, answer="x" if answers else None)
    return Group(entry, functions, starts=starts)


def all_plain(one, starts, mark):
    """All plain books as lists of what is promised, tried from all that could be written."""
    texts = []
    for word in one.words:
        parameters, answer = one.function(word)
        for name in parameters:
            fine = word != one.entry or mark in starts.get(name, "")
            texts.append(["", mark] if fine else [""])
        texts.append(["", mark] if answer is not None else [""])
    return [list(chosen) for chosen in itertools.product(*texts)]


def texts_of(one, book):
    return [text for word in one.words for text in book[word][0] + (book[word][1],)]


class Plain(Case):
    def check(self, one, starts, mark, many):
        found = list(plain_books(one, mark))
        due = all_plain(one, starts, mark)
        self.assertEqual(len(found), 2 ** many)
        self.assertEqual(sorted(texts_of(one, book) for book in found), sorted(due))
        sizes = [len(book) for book in found]
        self.assertEqual(sizes, sorted(sizes))
        self.assertTrue(all(isinstance(book, Book) for book in found))

    def test_none_to_six(self):
        for told, starts, many in [([(0, 0)], {}, 0), ([(2, 0)], {}, 0), ([(0, 1)], {}, 1), ([(1, 0)], {"a": "zs"}, 1),
                                   ([(2, 1)], {"b": "sz"}, 2), ([(0, 0), (3, 0)], {}, 3), ([(0, 1), (2, 1), (0, 0)], {}, 4),
                                   ([(3, 1), (1, 1), (1, 1)], {}, 5), ([(3, 1), (1, 1)], {name: "zs" for name in "abc"}, 6),
                                   ([(3, 0), (3, 0), (3, 0)], {}, 6), ([(0, 1), (2, 1), (0, 1), (0, 1)], {}, 6)]:
            for mark in "zs":
                self.check(heads(*told, **starts), starts, mark, many)

    def test_entries_with_starts_by_another_mark(self):
        for starts, many in [({"a": "z"}, {"z": 2, "s": 1}), ({"a": "z", "b": "s"}, {"z": 2, "s": 2}), ({"a": "zs", "b": "s"}, {"z": 2, "s": 3}),
                             ({}, {"z": 1, "s": 1}), ({"a": "", "b": ""}, {"z": 1, "s": 1})]:
            for mark in "zs":
                self.check(heads((2, 1), **starts), starts, mark, many[mark])
        # What another function than the entry is asked for is free.
        self.check(heads((2, 1), (2, 1), entry="g"), {}, "z", 4)

    def test_seven(self):
        for one in [heads((0, 1), (3, 0), (3, 0)), heads((3, 1), (2, 1), a="zs", b="zs", c="zs"), heads((3, 1), (3, 1), (1, 1))]:
            for mark in "zs":
                self.refused_while(TooMany, one, plain_books, one, mark)
        self.refused_while(TooMany, one := heads((3, 1), (3, 1), (3, 1), (3, 1)), plain_books, one, "z")
        # Too many by one mark alone.
        one = heads((3, 1), (2, 0), (1, 0), a="z")
        self.assertEqual(len(list(plain_books(one, "s"))), 16)
        self.assertEqual(len(list(plain_books(one, "z"))), 32)

    def test_groups_that_are_not_simple(self):
        bent = Group("f", {"f": Function("p", {"p": ((("do", "a", "and", "a", "b"),), ())}, answer="a")})
        self.assertEqual([len(book) for book in plain_books(group=bent, mark="z")], [0, 1])

    def test_told_books_are_new(self):
        one = heads((0, 1), (1, 1))
        found = list(plain_books(one, "z"))
        for book in found:
            book["g"] = (("s",), "s")
        again = list(plain_books(one, "z"))
        self.assertEqual([len(book) for book in again], [0, 1, 1, 1, 2, 2, 2, 3])
        books = iter(plain_books(one, "z"))
        next(books)["f"] = ((), "s")
        self.assertEqual(len(list(books)), 7)

    def test_what_is_refused_when_the_iteration_begins(self):
        one = heads((0, 1), (3, 0), (3, 0))
        for bad in NO_GROUPS:
            self.refused_while(BadGroup, bad, plain_books, bad, None)
        for bad in NO_MARKS:
            self.refused_while(BadMark, bad, plain_books, one, bad)


class Costs(Case):
    def test_beside_the_sum_of_all_alone(self):
        kinds = set()
        for chance, told, one, mark, often, paths in cases(210, 60, many=2, many_names=2):
            for book in plain_books(one, mark):
                due = sum(Cheapest(alone(one, word, book), mark, often.get(word)).cost for word in one.words)
                self.assertEqual(book_cost(one, mark, book, often), due)
                due = sum(Cheapest(alone(one, word, book), mark).cost for word in one.words)
                self.assertEqual([book_cost(one, mark, book), book_cost(one, mark, book, {})], [due] * 2)
                kinds.add(due)
        self.assertGreater(len(kinds), 3)

    def test_by_hand(self):
        one = group()
        # Nothing promised: the answer is lost behind the call. The answer promised: g makes it sure where it returns it.
        for promises, often, due in [({}, None, 1), ({"g": (("", ""), "z")}, None, 1), ({"g": (("z", ""), "")}, None, 3),
                                     ({"g": (("z", "z"), "")}, None, 4), ({}, {"f": {("p", "q"): 5, ("", "p"): 7}}, 5),
                                     ({}, {"f": {("p", "q"): 0}}, 0)]:
            book = Book(one, promises)
            self.assertEqual(book_cost(group=one, mark="z", book=book, frequencies=often),
                             sum(least_cost(self.paths_alone(one, word, book, (often or {}).get(word))) for word in "fg"))
            self.assertEqual(book_cost(one, "z", book, often), due)

    def paths_alone(self, one, word, book, often):
        """The paths of a second reckoning of one function alone."""
        told = {"entry": "f", "functions": {"f": F, "g": G}, "starts": {}}
        promises = {key: book[key] for key in "fg"}
        first, blocks, starts, rules = alone_of(told, word, promises)

        def needs(key):
            if key in promises:
                return (promises[key][0],)
            return ((promises[word][1],),) if key == "return" else needs_of(key, told)
        return Paths(first, blocks, starts, "z", rules, needs, often)

    def test_books_that_are_not_plain(self):
        one = group(b="s")
        for promises in [{"g": (("s", ""), "")}, {"g": (("z", "zs"), "")}, {"g": (("", ""), "s")}, {"f": (("s",), "")}, {"f": (("z",), "")}]:
            self.refused(BadBook, bad := Book(one, promises), book_cost, one, "z", bad, 1)
        self.assertEqual(book_cost(group(b="z"), "z", Book(group(b="z"), {"f": (("z",), "")})), 1)
        self.assertEqual(book_cost(group(b="sz"), "z", Book(group(b="zs"), {"f": (("z",), "")})), 1)

    def test_what_is_refused_in_the_told_order(self):
        bent = Group("f", {"f": Function("p", {"p": ((), ("p",)), "q": ((), ("p",))}, parameters=("x",)),
                           "g": Function("p", {"p": ((("do", "a", "and", "a", "b"),), ())}),
                           "h": Function("p", {"p": ((("widen", "s", "a"),), ())})})
        book = Book(bent)
        for bad in NO_GROUPS:
            self.refused(BadGroup, bad, book_cost, bad, None, None, 1)
            self.refused(BadGroup, bad, BestBook, bad, None, 1)
        for bad in NO_MARKS:
            self.refused(BadMark, bad, book_cost, bent, bad, None, 1)
            self.refused(BadMark, bad, BestBook, bent, bad, 1)
        for bad in [Book(group()), Book(bent, {"f": (("z",), "")}), {}, bent, Agreeable(), Angry(), None] + odd_values():
            self.refused(BadBook, bad, book_cost, bent, "z", bad, 1)
        for bad in [{"k": None}, {"f": 1}, {"f": {("p", "q"): 1}}, {"f": {("q", "p"): 1}}, {None: None}, [], (), 0, False, "", {"f": []},
                    {"g": {("p", "p"): 1}}, {"g": {("", "p"): 1}, "f": {("p", "p"): True}}, {Agreeable(): {}}, Angry()] + odd_values():
            if bad is not None and repr(bad) != "{}":
                self.refused(BadFrequencies, bad, book_cost, bent, "z", book, bad)
                self.refused(BadFrequencies, bad, BestBook, bent, "z", bad)
        for bad in bad_frequencies(("p", "p")):
            self.refused(BadFrequencies, given := {"f": bad}, book_cost, bent, "z", book, given)
            self.refused(BadFrequencies, given := {"f": bad}, BestBook, bent, "z", given)
        for call in (lambda mark: book_cost(bent, mark, book), lambda mark: BestBook(bent, mark)):
            with self.assertRaises(NotSimple) as caught:
                call("z")
            self.assertEqual(caught.exception.value, "g")
            call("s")

    def test_not_simple_in_a_block_that_no_road_comes_to(self):
        bent = Group("g", {"f": Function("p", {"p": ((), ()), "q": ((("widen", "s", "a"),), ())}), "g": Function("p", {"p": ((), ())})})
        for call in (lambda: book_cost(bent, "z", Book(bent)), lambda: BestBook(bent, "z"), lambda: joined_sum(bent, "z", [])):
            with self.assertRaises(NotSimple) as caught:
                call()
            self.assertEqual(caught.exception.value, "f")


class Best(Case):
    def check(self, one, mark, often):
        """All that a BestBook tells goes together; that is returned."""
        best = BestBook(one, mark, often)
        book = best.book()
        self.assertEqual(book_cost(one, mark, book, often), best.cost)
        self.assertEqual(joined_sum(one, mark, best.flow, often), best.cost)
        self.assertIsInstance(best.flow, list)
        self.assertEqual(len({path for _, path in best.flow}), len(best.flow))
        self.assertEqual(list(best.puts), sorted(best.puts))
        self.assertEqual(sorted(best.puts), list(one.words))
        total = 0
        for word, puts in best.puts.items():
            program = alone(one, word, book)
            self.assertEqual(puts, sorted(set(puts)))
            self.assertIs(serves(program, mark, puts), True)
            total += cost_of(program, puts, (often or {}).get(word))
        self.assertEqual(total, best.cost)
        return best

    def test_beside_all_plain_books(self):
        rings, spread, dear = 0, 0, 0
        for chance, told, one, mark, often, paths in cases(211, 160, most_rows=5, many_names=2):
            best = self.check(one, mark, often)
            if len(all_plain(one, told["starts"], mark)) > 64:
                continue
            costs = [book_cost(one, mark, book, often) for book in plain_books(one, mark)]
            self.assertEqual(best.cost, min(costs))
            self.assertIn(best.book(), list(plain_books(one, mark)))
            rings += any(callee == word for word in one.words for _, callee in one.calls(word)) and max(costs) > 0
            spread += max(costs) > min(costs) > 0
            dear += best.cost > 0
        self.assertGreater(rings, 20)
        self.assertGreater(spread, 10)
        self.assertGreater(dear, 20)

    def test_beside_all_joined_cuts(self):
        many = 0
        for chance, told, one, mark, often, paths in cases(212, 120, many=2, many_names=2):
            best = self.check(one, mark, often)
            due = least_cost(paths, 12)
            if due is not None:
                self.assertEqual(best.cost, due)
                many += due > 0
        self.assertGreater(many, 8)

    def test_larger_groups(self):
        for chance, told, one, mark, often, paths in cases(213, 25, many=4, many_names=4, many_blocks=4, most_rows=7, own=2):
            self.check(one, mark, often)
            self.check(one, mark, None)
            self.assertIs(all(is_right(placed(alone(one, word, BestBook(one, mark).book()), mark, puts))
                              for word, puts in BestBook(one, mark).puts.items() if len(puts) < 8), True)

    def test_by_hand(self):
        best = self.check(group(), "z", None)
        self.assertEqual([best.cost, BestBook(group=group(), mark="z", frequencies=FREE).cost], [1, 9])
        # f is run a thousand times for each time that g is; so g had better make its answer sure.
        often = {"f": {("", "p"): 1000, ("p", "q"): 1000}}
        best = self.check(group(), "z", often)
        self.assertEqual([best.cost, best.book()["g"][1], best.puts["f"]], [1, "z", []])
        # A parameter that many need, in a ring.
        g = Function("p", {"p": ((("do", None, "shr", "x"), ("do", None, "shr", "x")), ("p", "q")), "q": ((("do", None, "g", "x"),), ())}, parameters=("x",))
        f = Function("p", {"p": ((("do", None, "g", "b"),), ())}, parameters=("b",))
        one = Group("f", {"f": f, "g": g})
        best = self.check(one, "z", {"g": {("", "p"): 100, ("p", "p"): 100}})
        self.assertEqual([best.cost, best.book()["g"], best.puts["g"]], [1, (("z",), ""), []])
        best = self.check(one, "z", {"f": {("", "p"): 100}})
        self.assertEqual([best.cost, len(best.puts["g"])], [1, 1])
        self.assertEqual(self.check(Group("f", {"f": f, "g": g}, starts={"b": "z"}), "z", None).cost, 0)

    def test_a_put_right_ahead_of_a_return(self):
        # What g loads is made sure at its end, so that it can be promised, since f is run more often.
        g = Function("p", {"p": ((("do", "x", "load"),), ())}, answer="x")
        f = Function("p", {"p": ((("do", "a", "g"), ("do", None, "shr", "a")), ())})
        one = Group("f", {"f": f, "g": g})
        best = self.check(one, "z", {"f": {("", "p"): 9}})
        self.assertEqual([best.cost, best.puts, best.book()["g"]], [1, {"f": [], "g": [(("p", "", 1), "x")]}, ((), "z")])
        best = self.check(one, "z", {"g": {("", "p"): 9}})
        self.assertEqual([best.cost, best.puts, best.book()["g"]], [1, {"f": [(("p", "", 1), "a")], "g": []}, ((), "")])

    def test_rings_of_calls(self):
        # Each function hands its parameter to the next one; the answer comes back round the ring.
        given = {}
        for word, behind in zip("fghk", "ghkf"):
            rows = {"p": ((), ("q", "r")), "q": ((("do", "x", behind, "x"),), ("r",)), "r": ((("do", None, "shr", "x"),), ())}
            given[word] = Function("p", rows, parameters=("x",), answer="x")
        for starts, due in [({}, 1), ({"x": "s"}, 1), ({"x": "z"}, 0)]:
            one = Group("f", given, starts=starts)
            best = self.check(one, "z", None)
            self.assertEqual(best.cost, due)
            self.refused_while(TooMany, one, plain_books, one, "z")
        often = {word: {("", "p"): 0, ("p", "q"): 0, ("p", "r"): 0, ("q", "r"): 0} for word in "fghk"}
        self.assertEqual(self.check(Group("f", given), "z", often).cost, 0)
        often = {word: {go: 1000000 for go in often[word]} for word in "fghk"}
        self.assertEqual(self.check(Group("f", given), "z", often).cost, 1000000)

    def test_frequencies_of_some_functions_and_goes(self):
        one = group()
        for often, due in [(None, 1), ({}, 1), ({"f": None, "g": None}, 1), ({"f": {}}, 1), ({"f": {("p", "q"): 0}}, 0), ({"g": {("", "h"): 0}}, 0),
                           ({"f": {("p", "q"): 5, ("", "p"): 5}, "g": None}, 1), ({"f": {("p", "q"): 1000000, ("", "p"): 1000000}}, 1),
                           ({"f": {("p", "q"): 1000000, ("", "p"): 1000000}, "g": {("h", "e"): 1000000, ("h", "k"): 1000000, ("", "h"): 1000000}}, 1000000)]:
            self.assertEqual(self.check(one, "z", often).cost, min(book_cost(one, "z", book, often) for book in plain_books(one, "z")))
            self.assertEqual(BestBook(one, "z", often).cost, due)

    def test_what_is_told_may_be_changed(self):
        often = {"f": {("p", "q"): 2}}
        best = BestBook(group(), "z", often)
        self.assertEqual(often, {"f": {("p", "q"): 2}})
        often["f"].clear()
        puts, flow, cost, book = best.puts, best.flow, best.cost, best.book()
        best.puts["f"].append(None)
        best.puts.clear()
        best.flow.clear()
        best.book()["g"] = (("s", "s"), "s")
        self.assertEqual([best.puts, best.flow, best.cost, best.book()], [puts, flow, cost, book])
        self.assertIsNot(best.book(), best.book())
        again = BestBook(group(), "z", {"f": {("p", "q"): 2}})
        self.assertEqual([again.puts, again.flow, again.cost, again.book()], [puts, flow, cost, book])
        for name in ("puts", "flow", "cost"):
            self.assertRaises(AttributeError, setattr, best, name, [])

    def test_a_group_that_needs_no_puts(self):
        one = heads((0, 1), (3, 0))
        best = self.check(one, "z", None)
        self.assertEqual([best.cost, best.flow, best.puts], [0, [], {"f": [], "g": []}])

    def test_the_book_is_kept_when_its_puts_are_placed(self):
        many = 0
        for chance, told, one, mark, often, paths in cases(214, 60, many_names=2):
            best = BestBook(one, mark)
            if best.cost == 0 and all(not puts for puts in best.puts.values()):
                self.assertIs(is_kept(one, best.book()), True)
                many += 1
        self.assertGreater(many, 20)


if __name__ == "__main__":
    unittest.main()
