"""Point [26]: texts."""

import random
import unittest

from signskept.errors import BadProgram, BadRun, BadText
from signskept.known import known, known_words
from signskept.operations import Operation
from signskept.plays import bits_for
from signskept.programs import Program
from signskept.texts import format_program, format_run, parse_program, parse_run
from tests.helpers import Agreeable, Angry, Case, odd_values
from tests.plain import all_roads, names_of, random_program, random_table, with_table

TABLE = {"mix": Operation(3, (("z", "", "zs"), ("", "s", "")), z=(("", "", ""),), s=(("s", "zs", "z"), ("", "", ""))),
         "none": Operation(0), "all": Operation(0, ((), ()), z=((),), s=((), ()))}
WHOLE = """first q
start a zs
start abcdefgh -
start b s
start c z
operation all 0; always|always; always; always|always
operation mix 3; z,-,zs|-,s,-; -,-,-; s,zs,z|-,-,-
operation none 0; always; never; never
block p q p
  do a add a b
  do - store b a
  do abcdefgh mix a b a
  do - none
  move a c
  widen z a
  widen s c
block q
block r p
  do a all
"""
LEAST = "first p\nblock p\n"
MOST = 2 ** 32 - 1


def whole():
    blocks = {"p": ((("do", "a", "add", "a", "b"), ("do", None, "store", "b", "a"),
                     ("do", "abcdefgh", "mix", "a", "b", "a"), ("do", None, "none"), ("move", "a", "c"),
                     ("widen", "z", "a"), ("widen", "s", "c")), ("q", "p")),
              "q": ((), ()), "r": ((("do", "a", "all"),), ("p",))}
    return Program("q", blocks, starts={"a": "sz", "c": "z", "b": "s"}, table=TABLE)


def written(first, blocks, starts, told):
    """The text of a program, written in another way, line by line."""
    def dashed(marks):
        return "".join(sorted(marks, reverse=True)) or "-"

    def wants(rows):
        if len(rows) == 0:
            return "never"
        return "|".join(",".join(map(dashed, row)) if len(row) else "always" for row in rows)
    lines = ["first " + first]
    lines += ["start %s %s" % (name, dashed(starts.get(name, ""))) for name in names_of(blocks, starts)]
    lines += ["operation %s %d; %s; %s; %s" % (word, parts[0], wants(parts[1]), wants(parts[2]), wants(parts[3]))
              for word, parts in sorted(told.items())]
    for word, (rows, goes) in sorted(blocks.items()):
        lines.append("block " + " ".join((word,) + goes))
        lines += ["  " + " ".join(part or "-" for part in row) for row in rows]
    return "\n".join(lines) + "\n"


class Programs(Case):
    def test_by_hand(self):
        self.assertEqual(format_program(program=whole()), WHOLE)
        self.assertEqual(parse_program(text=WHOLE), whole())
        self.assertEqual(parse_program(WHOLE).operation("mix"), TABLE["mix"])
        self.assertEqual(format_program(Program("p", {"p": ((), ())})), LEAST)
        self.assertEqual(parse_program(LEAST), Program("p", {"p": ((), ())}))

    def test_each_known_operation(self):
        for word in known_words():
            for answer in ("a", None):
                operands = ("b", "c", "d")[:known(word).arity]
                program = Program("p", {"p": ((("do", answer, word) + operands,), ("p",))})
                text = format_program(program)
                self.assertIn(" ".join(("\n  do", answer or "-", word) + operands) + "\n", text)
                self.assertEqual(parse_program(text), program)

    def test_beside_another_writing(self):
        chance = random.Random(260)
        for _ in range(150):
            told = random_table(chance, chance.randint(0, 8))
            first, blocks, starts = random_program(chance, many_blocks=6, many_names=5, table=with_table(told))
            table = {word: Operation(parts[0], parts[1], z=parts[2], s=parts[3]) for word, parts in told.items()}
            program = Program(first, blocks, starts=starts, table=table)
            text = format_program(program)
            self.assertEqual(text, written(first, blocks, starts, told))
            again = parse_program(text)
            self.assertEqual(again, program)
            self.assertEqual([again.variables, again.words, again.starts()],
                             [program.variables, program.words, program.starts()])

    def test_variables_that_stand_in_no_row(self):
        program = Program("p", {"p": ((("move", "a", "b"),), ())}).without([("p", 0)])
        self.assertEqual(format_program(program), "first p\nstart a -\nstart b -\nblock p\n")
        self.assertEqual(parse_program(format_program(program)), program)
        self.assertEqual(parse_program("first p\nstart x zs\nblock p\n").variables, ("x",))

    def test_words_that_mean_something_else(self):
        words = ["first", "start", "block", "operatio", "do", "move", "widen", "never", "always", "z", "s", "zs"]
        table = {word: Operation(1) for word in words[:8]}
        rows = tuple(("do", word, word, word) for word in words[:8]) + (("move", "zs", "z"), ("widen", "z", "s"))
        blocks = {word: (rows if word == "block" else (), ("first",)) for word in words}
        program = Program("start", blocks, starts={word: "z" for word in words}, table=table)
        self.assertEqual(parse_program(format_program(program)), program)

    def test_the_largest_program(self):
        words = ["abcdefg" + letter for letter in "abcdefghijklmnopqrst"]
        names = ["xbcdefg" + letter for letter in "abcdefghijkl"]
        table = {"ybcdefg" + letter: Operation(3, (("zs",) * 3,) * 4, z=(("zs",) * 3,) * 4, s=(("zs",) * 3,) * 4)
                 for letter in "abcdefgh"}
        rows = tuple(("do", name, "ybcdefga", name, name, name) for name in names[:3])
        blocks = {word: (rows, tuple(words[:2])) for word in words}
        program = Program(words[0], blocks, starts={name: "zs" for name in names}, table=table)
        self.assertEqual(parse_program(format_program(program)), program)

    def test_one_sign_of_another_kind(self):
        chance = random.Random(261)
        many = 0
        for text in (WHOLE, LEAST):
            for at in range(len(text) + 1):
                for sign in chance.sample(" \n-|,;zsapqx0123A\t\r\u00e9", 12):
                    for other in (text[:at] + sign + text[at:], text[:at] + sign + text[at + 1:]):
                        many += self.check_other(text, other)
                self.check_other(text, text[:at] + text[at + 1:])
        # Some are texts of other programs, and they are read as just these.
        self.assertGreater(many, 20)

    def check_other(self, text, other):
        """A text is refused, or it is that of the program that is told; whether it is read."""
        if other == text:
            return 0
        try:
            program = parse_program(other)
        except BadText as error:
            self.assertIs(error.value, other)
            return 0
        self.assertEqual(format_program(program), other)
        self.assertNotEqual(program, parse_program(text))
        return 1

    def test_lines_in_another_order(self):
        lines = WHOLE.splitlines(keepends=True)
        for one in range(len(lines)):
            if not lines[one].startswith("  "):
                self.refused_text(WHOLE + lines[one])
            for other in range(one):
                turned = list(lines)
                turned[one], turned[other] = turned[other], turned[one]
                self.check_other(WHOLE, "".join(turned))
            self.check_other(WHOLE, "".join(lines[:one] + lines[one + 1:]))
            self.check_other(WHOLE, "".join(lines[:one] + [lines[one]] + lines[one:]))

    def refused_text(self, text):
        self.refused(BadText, text, parse_program, text)

    def test_texts_by_hand(self):
        for text in ["", "\n", "first p", "first p\n", "first p\nblock p", "first p\nblock p\n\n", "\nfirst p\nblock p\n",
                     "first p \nblock p\n", " first p\nblock p\n", "first  p\nblock p\n", "first q\nblock p\n",
                     "first p\nblock p \n", "first p\nblock p\n ", "first p\r\nblock p\r\n", "first p\nblock p\nblock p\n",
                     "first p\nfirst p\nblock p\n", "block p\nfirst p\n", "first p\nblock q\nblock p\n",
                     "first p\nstart a\nblock p\n", "first p\nstart a \nblock p\n", "first p\nstart a sz\nblock p\n",
                     "first p\nstart a x\nblock p\n", "first p\nstart b -\nstart a -\nblock p\n",
                     "first p\nstart a -\nstart a -\nblock p\n", "first p\nstart a z\nstart a -\nblock p\n",
                     "first p\nblock p\nstart a -\n", "first p\nblock p\n  move a a\n",
                     "first p\nstart a -\nblock p\n  move a b\n", "first p\nstart a -\nblock p\n move a a\n",
                     "first p\nstart a -\nblock p\n   move a a\n", "first p\nstart a -\nblock p\nmove a a\n",
                     "first p\nstart a -\n  move a a\nblock p\n", "first p\nstart a -\nblock p\n  move a a \n",
                     "first p\nstart a -\nblock p\n  move - a\n", "first p\nstart a -\nblock p\n  widen - a\n",
                     "first p\nstart a -\nblock p\n  do a not -\n", "first p\nstart a -\nblock p\n  do a -\n",
                     "first p\nblock p p p\n", "first p\nblock p x\n", "first p\nblock p\n  \n", "first P\nblock P\n",
                     "first p\nblock p\n  do - load\n  do\n", "first p\nblock p\n# no more\n", "first p q\nblock p\n",
                     "first p\nblock p\n  do None load\n", "first p\nblock\n", "first\nblock p\n"]:
            self.refused_text(text)

    def test_operations_by_hand(self):
        for line in ["operation w 1; -; never; z", "operation w 0; always; never; never",
                     "operation w 2; z,z|s,s; -,-; never", "operation w 0; always; always|always; never"]:
            text = "first p\n" + line + "\nblock p\n"
            self.assertEqual(format_program(parse_program(text)), text)
        for line in ["operation w 1; never; never; never", "operation w 1; always; never; never", "operation w 1; -; -",
                     "operation w 0; -; never; never", "operation w 1; ; never; never", "operation w 4; -; never; never",
                     "operation w 1; -,-; never; never", "operation w 2; -; never; never", "operation w 1;-;never;never",
                     "operation w 1; sz; never; never", "operation w 1; -|; never; never", "operation w 01; -; never; never",
                     "operation w; -; never; never", "operation w 1; -; never; never; never", "operation add 2; -,-; never; never",
                     "operation W 1; -; never; never", "operation w 1; -|-|-|-|-; never; never", "operation 1; -; never; never",
                     "operation w 1; -; never|never; never", "operation w 1; -; never; always", "operation w x; -; never; never",
                     "operation w 1 ; -; never; never", "operation w \u00b9; -; never; never", "operation", "operation w",
                     "operation x w 1; -; never; never", "operation w 1; -; never; never "]:
            self.refused_text("first p\n" + line + "\nblock p\n")
        # In another order, and one twice.
        ends = " 0; always; never; never\n"
        self.assertTrue(parse_program("first p\noperation v" + ends + "operation w" + ends + "block p\n"))
        self.refused_text("first p\noperation w" + ends + "operation v" + ends + "block p\n")
        self.refused_text("first p\noperation w" + ends + "operation w" + ends + "block p\n")
        nine = "".join("operation w" + letter + ends for letter in "abcdefghi")
        self.refused_text("first p\n" + nine + "block p\n")
        self.assertTrue(parse_program("first p\n" + nine[nine.index("\n") + 1:] + "block p\n"))

    def test_programs_that_break_a_rule(self):
        rows = "  do a load\n"
        self.assertTrue(parse_program("first p\nstart a -\nblock p\n" + rows * 60))
        self.refused_text("first p\nstart a -\nblock p\n" + rows * 61)
        blocks = ["block b" + letter + "\n" for letter in "abcdefghijklmnopqrstu"]
        self.assertTrue(parse_program("first ba\n" + "".join(blocks[:20])))
        self.refused_text("first ba\n" + "".join(blocks))
        names = ["start v" + letter + " -\n" for letter in "abcdefghijklm"]
        self.assertTrue(parse_program("first p\n" + "".join(names[:12]) + "block p\n"))
        self.refused_text("first p\n" + "".join(names) + "block p\n")

    def test_long_texts(self):
        for many in (7999, 8000, 8001, 50000):
            for text in (LEAST + "\n" * (many - len(LEAST)), "p" * many, (LEAST + "  move a a\n" * 800)[:many]):
                self.refused_text(text)

    def test_what_is_refused(self):
        for bad in [LEAST.encode(), [LEAST], (LEAST,), whole()] + odd_values():
            self.refused_text(bad)
        for bad in ["p", LEAST, Program] + odd_values():
            self.refused(BadProgram, bad, format_program, bad)


class Runs(Case):
    def test_by_hand(self):
        for run, text in [(((), ()), "; "), (((6,), (6, 6)), "6; 6 6"), (((0, MOST), ()), "0 4294967295; "),
                          (((), (10,)), "; 10"), (((1, 2, 3), (4, 5)), "1 2 3; 4 5")]:
            self.assertEqual(format_run(run=run), text)
            self.assertEqual(parse_run(text=text), run)

    def test_of_programs(self):
        chance = random.Random(262)
        for _ in range(40):
            first, blocks, starts = random_program(chance)
            program = Program(first, blocks, starts=starts)
            run = bits_for(program, chance.choice(all_roads(first, blocks, 3)), narrow=30, wide=32)
            self.assertEqual(parse_run(format_run(run)), run)

    def test_one_sign_of_another_kind(self):
        many = 0
        for text in ("; ", "6; 6 6", "10 4294967295; 0", "4294967295 7; ", "; 20 1"):
            for at in range(len(text) + 1):
                self.check_other(text, text[:at] + text[at + 1:])
                for sign in " ;019-+_,\n\t\u00b2\u0663x":
                    many += self.check_other(text, text[:at] + sign + text[at:])
                    many += self.check_other(text, text[:at] + sign + text[at + 1:])
        self.assertGreater(many, 50)

    def check_other(self, text, other):
        if other == text:
            return 0
        try:
            run = parse_run(other)
        except BadText as error:
            self.assertIs(error.value, other)
            return 0
        self.assertEqual(format_run(run), other)
        self.assertNotEqual(run, parse_run(text))
        return 1

    def test_texts_that_are_none(self):
        for text in ["", ";", " ", "1", "1;2", "1 ;2", "1;  2", "1; 2 ", " 1; 2", "1  2; 3", "1; 2; 3", "1; 2\n", "01; 2",
                     "00; 0", "-1; 2", "+1; 2", "1.0; 2", "0x1; 2", "1_0; 2", "4294967296; ", "; 4294967296", "99999999999; ",
                     "1; -", "\u0661; 2", "\u00b2; 2", "1,2; 3", "; ; ", "1;\u00a02", "None; ", "True; ",
                     "1; " + "9" * 5000]:
            self.refused(BadText, text, parse_run, text)

    def test_eight_thousand_signs(self):
        text = "1; " + " ".join(["12"] * 2665 + ["3"])
        self.assertEqual(len(text), 7999)
        for least, many in ((text + "4", 8000), (text[:3] + "1" + text[3:], 8000), (text, 7999)):
            self.assertEqual(len(least), many)
            self.assertEqual(format_run(parse_run(least)), least)
        for longer in (text + "45", text + " 4", text + "4 5", text * 3):
            self.assertGreater(len(longer), 8000)
            self.refused(BadText, longer, parse_run, longer)
        # Longer ones are still written.
        run = ((MOST,) * 2000, (0,))
        self.assertEqual(format_run(run), " ".join([str(MOST)] * 2000) + "; 0")

    def test_what_is_refused(self):
        for bad in [[(1,), (2,)], ([1], (2,)), ((1,), [2]), ((1,),), ((1,), (2,), ()), (1, 2), ((MOST + 1,), ()), ((), (-1,)),
                    ((True,), ()), ((), (False,)), ((1.0,), ()), (("1",), ()), ((None,), ()), (((),), ()), "1; 2", (),
                    ((Angry(),), ()), ((), (Agreeable(),)), ([], [])] + odd_values():
            self.refused(BadRun, bad, format_run, bad)
        for bad in [b"1; 2", ("1; 2",), ((1,), (2,))] + odd_values():
            self.refused(BadText, bad, parse_run, bad)


if __name__ == "__main__":
    unittest.main()
