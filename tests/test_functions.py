"""Point [18]: functions and groups."""

import random
import unittest

from signskept.errors import BadFunction, BadFunctions, BadStarts, NoFunction
from signskept.functions import Function, Group
from signskept.known import known_words
from signskept.operations import Operation
from signskept.programs import Program
from tests.groups import calls_in, group_of, random_group
from tests.helpers import Agreeable, Angry, Case, odd_values
from tests.plain import names_of

LOAD, SHR = ("do", "a", "load"), ("do", None, "shr", "a")
ONE = Operation(1)
TABLE = {"mix": Operation(2, z=(("z", "z"),)), "own": ONE, "last": Operation(0, s=((),))}
# f calls g and itself; g calls h, which is called nowhere else; k has nothing.
F = {"p": ((("do", "a", "g", "a", "b"), ("do", None, "g", "b", "b"), ("do", "b", "f", "a")), ("q", "p")),
     "q": ((("do", "c", "mix", "a", "b"), ("do", None, "f", "c")), ())}
G = {"g": ((("do", None, "h"), ("move", "y", "x")), ())}


def functions(**others):
    """Four functions, some of which are others."""
    found = {"f": Function("p", F, parameters=("a",), answer="c", table=TABLE),
             "g": Function("g", G, parameters=("x", "y"), answer="x"),
             "h": Function("p", {"p": ((), ())}), "k": Function("p", {"p": ((LOAD,), ())}, answer="a")}
    return {**found, **others}


def plain(**named):
    """A Function of one block with a load, but for what is told."""
    return Function(named.pop("first", "p"), named.pop("blocks", {"p": ((LOAD,), ())}), **named)


def calling(*row):
    """A function that has just this row."""
    return plain(blocks={"p": ((("do",) + row,), ())})


class Groups(Case):
    def test_what_a_group_tells(self):
        group = Group("f", functions())
        self.assertEqual([group.entry, group.words], ["f", ("f", "g", "h", "k")])
        self.assertEqual([group.function(word) for word in group.words],
                         [(("a",), "c"), (("x", "y"), "x"), ((), None), ((), "a")])
        self.assertEqual(group.calls("f"), [(("p", 0), "g"), (("p", 1), "g"), (("p", 2), "f"), (("q", 1), "f")])
        self.assertEqual([group.calls(word=word) for word in "ghk"], [[(("g", 0), "h")], [], []])
        self.assertEqual([group.variables_in(word=word) for word in "fghk"], [("a", "b", "c"), ("x", "y"), (), ("a",)])
        self.assertEqual(group.function(word="k"), ((), "a"))

    def test_one_to_four_functions(self):
        chance = random.Random(180)
        kinds = set()
        for _ in range(200):
            told = random_group(chance, many=4)
            group = group_of(told)
            self.assertEqual([group.entry, group.words], [told["entry"], tuple(sorted(told["functions"]))])
            for word, (_, blocks, parameters, answer, _) in told["functions"].items():
                self.assertEqual(group.function(word), (parameters, answer))
                self.assertEqual(group.calls(word), calls_in(told, word))
                self.assertEqual(group.variables_in(word), tuple(names_of(blocks, parameters)))
                kinds.add((len(group.words), len(parameters), answer is None, len(group.calls(word)) > 0))
                self.assertEqual(group_of(told), group)
        self.assertEqual(len({kind[0] for kind in kinds}), 4)
        self.assertEqual(len({kind[1:] for kind in kinds}), 16)

    def test_the_least_group(self):
        group = Group(entry="f", functions={"f": Function(first="p", blocks={"p": ((), ())}, parameters=(), answer=None, table=None)},
                      starts=None)
        self.assertEqual([group.words, group.calls("f"), group.variables_in("f")], [("f",), [], ()])
        self.assertEqual(Group("f", {"f": Function("p", {"p": ((), ())}, table={})}, starts={}), group)

    def test_an_answer_that_is_a_parameter_alone(self):
        group = Group("f", {"f": Function("p", {"p": ((), ())}, parameters=("a", "b", "c"), answer="b")})
        self.assertEqual([group.function("f"), group.variables_in("f")], [(("a", "b", "c"), "b"), ("a", "b", "c")])

    def test_words_that_may_be_used(self):
        # Words of blocks, variables and functions may be the same; so may those of tables of one function each.
        one = Function("f", {"f": ((("do", "f", "own", "f"),), ()), "return": ((("move", "return", "f"),), ("f",))},
                       parameters=("g",), answer="return", table={"own": ONE})
        group = Group("f", {"f": one, "g": Function("own", {"own": ((("do", "load", "own"),), ())}, table={"own": Operation(0)}),
                            "widen": plain(), "move": plain()})
        self.assertEqual(group.words, ("f", "g", "move", "widen"))
        self.assertEqual(group.variables_in("f"), ("f", "g", "return"))

    def test_new_each_time(self):
        group = Group("f", functions())
        group.calls("f").clear()
        self.assertEqual(len(group.calls("f")), 4)
        for name in ("entry", "words"):
            self.assertRaises(AttributeError, setattr, group, name, "k")

    def test_no_such_function(self):
        group = Group("f", functions())
        for bad in ["", "p", "mix", "load", "return", "ff", 0, ("f",)] + odd_values():
            self.refused(NoFunction, bad, group.function, bad)
            self.refused(NoFunction, bad, group.calls, bad)
            self.refused(NoFunction, bad, group.variables_in, bad)

    def test_names_alone(self):
        self.assertRaises(TypeError, Function, "p", {"p": ((), ())}, ())
        self.assertRaises(TypeError, Function, "p")
        self.assertRaises(TypeError, Group, "f", functions(), None)


class Copies(Case):
    def test_what_was_handed_in_may_be_changed(self):
        blocks, table, starts = {key: F[key] for key in F}, dict(TABLE), {"a": "z"}
        one = Function("p", blocks, parameters=("a",), answer="c", table=table)
        given = functions(f=one)
        # Between the two makings, too.
        blocks.clear()
        table.clear()
        group = Group("f", given, starts=starts)
        due = Group("f", functions(), starts={"a": "z"})
        self.assertEqual(group, due)
        given.clear()
        starts["a"] = "bad"
        self.assertEqual([group == due, group.words, group.variables_in("f")], [True, due.words, ("a", "b", "c")])
        self.assertEqual(group.calls("f"), due.calls("f"))

    def test_what_was_handed_in_stays(self):
        given, starts = functions(), {"a": "sz"}
        blocks, table = dict(F), dict(TABLE)
        Group("f", {**given, "f": Function("p", blocks, parameters=("a",), answer="c", table=table)}, starts=starts)
        self.assertEqual([sorted(given), starts, blocks, table], [["f", "g", "h", "k"], {"a": "sz"}, F, TABLE])

    def test_a_function_in_several_groups(self):
        one = Function("p", {"p": ((("do", None, "g", "a"),), ())})
        first = Group("f", {"f": one, "g": plain(parameters=("x",))})
        second = Group("f", {"f": one, "g": plain(parameters=("x",), answer="a")})
        self.refused(BadFunction, "f", Group, "f", {"f": one, "g": plain()})
        self.assertEqual([first.function("g"), second.function("g"), first == second], [(("x",), None), (("x",), "a"), False])


class Equality(Case):
    def test_by_what_was_handed_in(self):
        group = Group("f", functions(), starts={"a": "sz"})
        self.assertEqual(group, Group("f", functions(), starts={"a": "zs"}))
        self.assertFalse(group != Group("f", functions(), starts={"a": "zs"}))
        turned = functions()
        turned = {word: turned[word] for word in "khgf"}
        self.assertEqual(group, Group("f", turned, starts={"a": "zs"}))
        self.assertEqual(group, Group("f", functions(h=Function("p", {"p": ((), ())}, table={})), starts={"a": "zs"}))
        self.assertFalse(Group("h", functions()) == Group("k", functions()))
        others = [Group("k", functions()), Group("f", functions()), Group("f", functions(), starts={"a": "z"}),
                  Group("f", functions(h=Function("q", {"q": ((), ())})), starts={"a": "zs"}),
                  Group("f", functions(h=Function("p", {"p": ((), ()), "q": ((), ())})), starts={"a": "zs"}),
                  Group("f", functions(h=Function("p", {"p": ((), ())}, table={"no": ONE})), starts={"a": "zs"}),
                  Group("f", functions(k=Function("p", {"p": ((LOAD,), ())})), starts={"a": "zs"}),
                  Group("f", functions(k=Function("p", {"p": ((LOAD,), ())}, parameters=("b",), answer="a")), starts={"a": "zs"}),
                  Group("f", functions(g=Function("g", G, parameters=("y", "x"), answer="x")), starts={"a": "zs"}),
                  Group("f", {word: functions()[word] for word in "fgh"}, starts={"a": "zs"})]
        for other in others:
            self.assertFalse(group == other)
            self.assertTrue(group != other)
        for value in odd_values():
            if not isinstance(value, (Agreeable, Angry)):
                self.assertFalse(group == value)

    def test_starts_that_tell_nothing(self):
        self.assertEqual(Group("f", functions(), starts={"a": ""}), Group("f", functions()))
        self.assertEqual(Group("f", functions(), starts={}), Group("f", functions()))

    def test_tables_of_equal_operations(self):
        one = plain(table={"own": Operation(1, (("",),))})
        other = plain(table={"own": Operation(1)})
        self.assertEqual(Group("f", {"f": one}), Group("f", {"f": other}))


class RefusedFunctions(Case):
    def test_no_such_dict(self):
        five = {word: plain() for word in "fghkm"}
        for bad in [{}, five, [("f", plain())], {"f": plain(), "g": None}, {"f": Function}, {"f": {"p": ((), ())}},
                    {"f": Program("p", {"p": ((), ())})}, {"f": Agreeable()}, {"f": Angry()}] + odd_values():
            self.refused(BadFunctions, bad, Group, None, bad)
            self.refused(BadFunctions, bad, Group, "f", bad, starts=1)

    def test_words_of_functions(self):
        for word in ["", "F", "abcdefghi", "f1", "f f", "return", 0, None, True, ("f",), Agreeable()] + known_words():
            self.refused(BadFunctions, bad := {"f": plain(), word: plain()}, Group, "f", bad)

    def test_words_of_a_table(self):
        for bad in [{"f": plain(table={"f": ONE})}, {"f": plain(), "own": plain(), "g": plain(table={"own": ONE})},
                    {"f": plain(table={"g": None}), "g": plain()}, {"f": plain(table={"g": ONE, 5: None}), "g": plain(parameters=0)}]:
            self.refused(BadFunctions, bad, Group, "f", bad)
        # A value that says it is a word is none.
        self.refused(BadFunction, "z", Group, "z", {"z": plain(table={Agreeable(): ONE})})
        self.refused(BadFunction, "f", Group, "f", {"f": plain(table=["f"])})


class RefusedHeads(Case):
    def bad_heads(self):
        for bad in [None, "a", "abc", ["a"], ("a", "a"), ("a", "b", "c", "d"), ("A",), ("",), (None,), ("a", 1), (True,),
                    (["a"],), (Agreeable(),), (Angry(),), {"a": 1}, ("abcdefghi",)] + odd_values():
            yield plain(parameters=bad)
        for bad in ["", "A", "a b", "abcdefghi", 0, True, False, ("a",), ["a"], Agreeable(), Angry()]:
            yield plain(answer=bad)
        many = {"own" + letter: ONE for letter in "abcd"}
        for bad in [many, {"return": ONE}, {"load": ONE}, {"Own": ONE}, {"own": None}, {"own": Operation}, {"own": Agreeable()},
                    {1: ONE}, {None: ONE}, [], (), "own", 0, False, Angry(), Agreeable()]:
            yield plain(table=bad)

    def test_each_break(self):
        for bad in self.bad_heads():
            self.refused(BadFunction, "f", Group, None, {"f": bad})
            self.refused(BadFunction, "g", Group, None, {"f": plain(), "g": bad, "h": plain()})

    def test_what_is_no_break(self):
        for fine in [plain(parameters=("a", "b", "c")), plain(answer="a"), plain(table={}), plain(table=None),
                     plain(table={"own" + letter: ONE for letter in "abc"}), plain(parameters=("return", "load", "f"))]:
            self.assertEqual(Group("f", {"f": fine}).words, ("f",))

    def test_the_least_word_of_two(self):
        bad = plain(parameters=("a", "a"))
        for words in ("gk", "kg"):
            given = functions()
            given = {word: bad if word in words else given[word] for word in "kghf"}
            self.refused(BadFunction, "g", Group, None, given)

    def test_all_heads_ahead_of_all_bodies(self):
        body = plain(first="q")
        head = plain(table={"return": ONE})
        self.refused(BadFunction, "h", Group, None, {"f": body, "g": body, "h": head})
        self.refused(BadFunction, "f", Group, None, {"f": body, "g": body, "h": plain()})
        self.refused(BadFunction, "g", Group, None, {"f": plain(), "g": body, "h": plain()})


class RefusedBodies(Case):
    def bad_bodies(self):
        """Functions that break a rule, beside others that are fine."""
        for bad in [None, {}, {"p": ()}, {"p": ((), ("q",))}, {"P": ((), ())}, {"p": [(), ()]}, {"p": ([LOAD], ())}, {"p": ((), [])},
                    {"p": ((LOAD[:2],), ())}, {"p": ((("do", "a", "none"),), ())}, Angry(), Agreeable(), [], "p", {"p": Agreeable()},
                    {letter: ((), ()) for letter in "abcdefghijklmnopqrstu"}, {"p": (tuple(("do", "v" + letter, "load") for letter in "abcdefghijklm"), ())}]:
            yield plain(blocks=bad)
        for bad in ["q", "", None, ("p",), ["p"], Agreeable(), Angry(), 0, True]:
            yield plain(first=bad)
        # Twelve variables in all, with the parameters.
        eleven = {"p": (tuple(("do", "v" + letter, "load") for letter in "abcdefghijk"), ())}
        yield plain(blocks=eleven, parameters=("x", "y"))
        # A row of return is written by no one.
        yield calling(None, "return", "a")
        yield calling("a", "return", "a")
        # Calls with another number of operands, and an answer of a function that has none.
        yield calling(None, "two", "a")
        yield calling("a", "two")
        yield calling("a", "two", "a", "a", "a")
        yield calling("a", "none")
        yield calling(None, "none", "a")
        yield plain(blocks={"p": ((), ()), "q": ((("do", "a", "none"),), ())})
        # An answer that is no variable of rows or parameters; a block may have this word.
        yield plain(answer="b")
        yield plain(answer="p")
        yield Function("p", {"p": ((), ())}, answer="a")
        # More than forty rows.
        yield plain(blocks={"p": ((LOAD,) * 41, ())})
        yield plain(blocks={"p": ((LOAD,) * 40, ()), "q": ((LOAD,), ())})
        # A word of a table that another function has.
        yield calling("a", "theirs", "a")
        # Another number of operands than an own word has.
        yield plain(blocks={"p": ((("do", "a", "own"),), ())}, table={"own": ONE})

    def others(self, **more):
        return {"two": plain(parameters=("x", "y"), answer="y"), "none": Function("p", {"p": ((), ())}, table={"theirs": ONE}), **more}

    def test_each_break(self):
        for bad in self.bad_bodies():
            self.refused(BadFunction, "f", Group, None, self.others(f=bad))
            self.refused(BadFunction, "x", Group, None, self.others(x=bad))

    def test_a_break_by_itself_called(self):
        self.refused(BadFunction, "f", Group, "f", {"f": Function("p", {"p": ((("do", "a", "f"),), ())})})
        self.refused(BadFunction, "f", Group, "f", {"f": Function("p", {"p": ((("do", None, "f", "a"),), ())})})
        self.refused(BadFunction, "f", Group, "f", {"f": Function("p", {"p": ((("do", None, "f"),), ())}, parameters=("a",))})

    def test_what_is_no_break(self):
        eleven = {"p": (tuple(("do", "v" + letter, "load") for letter in "abcdefghijk"), ())}
        for fine in [calling("a", "two", "a", "a"), calling(None, "two", "b", "a"), calling(None, "none"), calling(None, "f"),
                     plain(blocks={"p": ((LOAD,) * 40, ())}), plain(blocks=eleven, parameters=("x",)),
                     plain(blocks=eleven, parameters=("va", "vb", "y"), answer="y"),
                     plain(blocks={letter: ((LOAD, LOAD), ()) for letter in "abcdefghijklmnopqrst"}, first="b", answer="a"),
                     Function("p", {"p": ((), ()), "q": ((("do", "a", "load"),), ("q",))}, answer="a")]:
            self.assertIn("f", Group("f", self.others(f=fine)).words)

    def test_the_least_word_of_two(self):
        for first in self.bad_bodies():
            self.refused(BadFunction, "f", Group, None, self.others(f=first, z=plain(first="q")))
            self.refused(BadFunction, "b", Group, None, {**self.others(f=first), "b": plain(first="q")})

    def test_each_function_alone_is_checked(self):
        # One that is called by none, and one that breaks by what another one is.
        self.refused(BadFunction, "k", Group, "f", functions(k=calling("a", "h")))
        self.refused(BadFunction, "f", Group, "f", functions(g=Function("g", {"g": ((LOAD,), ())}, parameters=("x",), answer="x")))
        self.refused(BadFunction, "f", Group, "f", functions(g=Function("g", {"g": ((LOAD,), ())}, parameters=("x", "y"))))


class RefusedBehind(Case):
    def test_no_such_entry(self):
        for bad in ["", "p", "load", "return", "ff", "mix", ("f",)] + odd_values():
            self.refused(NoFunction, bad, Group, bad, functions())
            self.refused(NoFunction, bad, Group, bad, functions(), starts=1)

    def test_starts(self):
        for bad in [{"b": "z"}, {"a": "zz"}, {"a": "z", "b": ""}, {"a": None}, {"a": ("z",)}, {"A": "z"}, {0: "z"}, {None: ""}, {"a": "-"},
                    [("a", "z")], "a", ("a",), {Agreeable(): "z"}, {"a": Agreeable()}, {"a": Angry()}, {"x": "z"}, 0, False, True, (), []]:
            self.refused(BadStarts, bad, Group, "f", functions(), starts=bad)
        self.refused(BadStarts, bad := {"a": ""}, Group, "h", functions(), starts=bad)
        for fine in [None, {}, {"a": ""}, {"a": "z"}, {"a": "sz"}]:
            self.assertEqual(Group("f", functions(), starts=fine).entry, "f")

    def test_in_the_told_order(self):
        body = plain(first="q")
        self.refused(BadFunctions, bad := {"f": body, "return": body}, Group, "x", bad, starts=1)
        self.refused(BadFunction, "f", Group, "x", {"f": body}, starts=1)
        self.refused(NoFunction, "x", Group, "x", {"f": plain()}, starts=1)
        self.refused(BadStarts, 1, Group, "f", {"f": plain()}, starts=1)

    def test_a_function_of_anything_is_made(self):
        # All is checked when a Group is made.
        for bad in odd_values():
            self.assertIsInstance(Function(bad, bad, parameters=bad, answer=bad, table=bad), Function)


if __name__ == "__main__":
    unittest.main()
