"""Point [7]: known operations."""

import itertools
import random
import unittest

from signskept.dresses import Dress
from signskept.errors import BadDress, BadNumber, BadOperands, NoOperation
from signskept.known import difference, known, known_words, narrowly, reckon
from signskept.operations import Operation
from signskept.wides import Wide
from tests.helpers import Case, odd_values
from tests.plain import OPERATIONS, TEXTS, can_differ, differs, reckoned, true_marks

WORDS = """load loadz loads one add sub mul neg shl and or xor not shr sar udiv urem sdiv srem ult equ
slt store""".split()
TABLE = {
    "load": Operation(0),
    "loadz": Operation(0, z=((),)),
    "loads": Operation(0, s=((),)),
    "one": Operation(0, z=((),), s=((),)),
    "add": Operation(2),
    "sub": Operation(2),
    "mul": Operation(2),
    "neg": Operation(1),
    "shl": Operation(1),
    "and": Operation(2, z=(("z", ""), ("", "z")), s=(("s", "s"),)),
    "or": Operation(2, z=(("z", "z"),), s=(("s", "s"),)),
    "xor": Operation(2, z=(("z", "z"),), s=(("s", "s"),)),
    "not": Operation(1, s=(("s",),)),
    "shr": Operation(1, (("z",),), z=(("z",),), s=(("z",),)),
    "sar": Operation(1, (("s",),), z=(("zs",),), s=(("s",),)),
    "udiv": Operation(2, (("z", "z"),), z=(("z", "z"),)),
    "urem": Operation(2, (("z", "z"),), z=(("z", "z"),)),
    "sdiv": Operation(2, (("s", "s"),)),
    "srem": Operation(2, (("s", "s"),), s=(("s", "s"),)),
    "ult": Operation(2, (("z", "z"), ("s", "s")), z=(("", ""),), s=(("", ""),)),
    "equ": Operation(2, (("z", "z"), ("s", "s")), z=(("", ""),), s=(("", ""),)),
    "slt": Operation(2, (("s", "s"),), z=(("", ""),), s=(("", ""),)),
    "store": Operation(2),
}
RECKONING = [word for word in WORDS if TABLE[word].arity > 0 and word != "store"]
NO_WORDS = ["", "ad", "adds", "ADD", " add", "add ", "move", "widen", "do", 0, ("add",)] + odd_values()


def all_rows(word, narrow, wide):
    return itertools.product(range(2 ** wide), repeat=TABLE[word].arity)


def telling_numbers(narrow, wide):
    """Bits at the edges of the low bits and of the register."""
    found = [0, 1, 2, 3, 2 ** (narrow - 1) - 1, 2 ** (narrow - 1), 2 ** narrow - 1, 2 ** narrow,
             2 ** (wide - 1), 2 ** (wide - 1) - 1, 2 ** wide - 2 ** (narrow - 1), 2 ** wide - 7,
             2 ** wide - 2, 2 ** wide - 1]
    return sorted({bits % 2 ** wide for bits in found})


class Tables(Case):
    def test_words_in_order(self):
        self.assertEqual(known_words(), WORDS)
        known_words().append("more")
        self.assertEqual(known_words(), WORDS)

    def test_each_row_of_the_table(self):
        self.assertEqual(list(TABLE), WORDS)
        for word in WORDS:
            self.assertEqual(known(word), TABLE[word], word)
            self.assertEqual(known(word=word).arity, OPERATIONS[word][0])

    def test_each_row_beside_its_rule(self):
        for word, (arity, need, gives_z, gives_s) in OPERATIONS.items():
            for texts in itertools.product(TEXTS, repeat=arity):
                sets = [set(text) for text in texts]
                self.assertIs(known(word).holds(texts), need(*sets), (word, texts))
                given = ("z" if gives_z(*sets) else "") + ("s" if gives_s(*sets) else "")
                self.assertEqual(known(word).gives(texts), Dress(given), (word, texts))

    def test_words_that_are_none(self):
        for bad in NO_WORDS:
            self.refused(NoOperation, bad, known, bad)


class Reckoning(Case):
    def check(self, word, row, narrow, wide):
        operands = [Wide(bits, narrow=narrow, wide=wide) for bits in row]
        answer = reckon(word, operands)
        self.assertEqual(answer, Wide(reckoned(word, row, wide), narrow=narrow, wide=wide), (word, row))
        low = [bits % 2 ** narrow for bits in row]
        self.assertEqual(narrowly(word, operands), reckoned(word, low, narrow), (word, row))
        self.assertEqual(reckon(word, tuple(operands)), answer)
        self.assertEqual([one.bits for one in operands], list(row))

    def test_all_small_registers(self):
        for word in RECKONING:
            for row in all_rows(word, 2, 4):
                self.check(word, row, 2, 4)

    def test_the_least_and_greatest_sizes(self):
        for narrow, wide in ((2, 4), (2, 32), (30, 32), (8, 16), (16, 31)):
            numbers = telling_numbers(narrow, wide)
            for word in RECKONING:
                for row in itertools.product(numbers, repeat=TABLE[word].arity):
                    self.check(word, row, narrow, wide)

    def test_division_and_remainder(self):
        def told(word, one, other):
            pair = [Wide(one, narrow=4, wide=8), Wide(other, narrow=4, wide=8)]
            return [reckon(word, pair).signed(), narrowly(word, pair)]

        self.assertEqual(told("sdiv", -7, 2), [-3, 13])
        self.assertEqual(told("sdiv", 7, -2), [-3, 13])
        self.assertEqual(told("sdiv", -7, -2), [3, 3])
        self.assertEqual(told("srem", -7, 2), [-1, 15])
        self.assertEqual(told("srem", 7, -2), [1, 1])
        self.assertEqual(told("srem", -7, -2), [-1, 15])
        self.assertEqual(told("sdiv", -8, -1), [8, 8])
        self.assertEqual(told("sdiv", -128, -1), [-128, 0])
        for word in ("sdiv", "udiv"):
            self.assertEqual(told(word, -7, 0), [0, 0])
            self.assertEqual(told(word, 0, 0), [0, 0])
        for word in ("srem", "urem"):
            self.assertEqual(told(word, -7, 0), [-7, 9])
            self.assertEqual(told(word, 5, 0), [5, 5])
        self.assertEqual(told("udiv", 200, 7), [28, 1])
        self.assertEqual(told("urem", 200, 7), [4, 1])

    def test_comparisons(self):
        def told(word, one, other):
            pair = [Wide(one, narrow=3, wide=5), Wide(other, narrow=3, wide=5)]
            return [reckon(word, pair).bits, narrowly(word, pair)]

        self.assertEqual([told("ult", 4, 3), told("slt", 4, 3)], [[0, 0], [0, 1]])
        self.assertEqual([told("ult", 8, 1), told("slt", -1, 0)], [[0, 1], [1, 1]])
        self.assertEqual([told("equ", 9, 1), told("equ", 9, 9)], [[0, 1], [1, 1]])

    def test_a_need_that_holds_keeps_the_low_bits_and_the_marks_are_true(self):
        for narrow, wide in ((2, 4), (2, 5), (3, 5)):
            for word in RECKONING:
                operation = known(word)
                for row in all_rows(word, narrow, wide):
                    operands = [Wide(bits, narrow=narrow, wide=wide) for bits in row]
                    dresses = [one.dress for one in operands]
                    if operation.holds(dresses):
                        answer = reckon(word, operands)
                        self.assertEqual(answer.low, narrowly(word, operands), (word, row))
                        self.assertTrue(operation.gives(dresses).within(answer.dress), (word, row))

    def test_words_that_reckon_nothing(self):
        pair = [Wide(1, narrow=3, wide=5)] * 2
        for bad in ["load", "loadz", "loads", "one", "store"] + NO_WORDS:
            for call in (reckon, narrowly):
                self.refused(NoOperation, bad, call, bad, pair)
                self.refused(NoOperation, bad, call, bad, [])
                self.refused(NoOperation, bad, call, bad, None)

    def test_operands_that_are_none(self):
        one = Wide(1, narrow=3, wide=5)
        others = [Wide(1, narrow=2, wide=5), Wide(1, narrow=3, wide=6)]
        for word in RECKONING:
            arity = TABLE[word].arity
            wrong = [[one] * (arity - 1), [one] * (arity + 1), one, "xy"[:arity], [], (), [1] * arity]
            wrong.extend([one] * (arity - 1) + [bad] for bad in [1, "z", Dress("z")] + odd_values())
            if arity == 2:
                wrong.extend([one, other] for other in others)
                wrong.extend((other, one) for other in others)
                wrong.append(others)
            for bad in wrong + odd_values():
                self.refused(BadOperands, bad, reckon, word, bad)
                self.refused(BadOperands, bad, narrowly, word, bad)

    def test_by_name(self):
        one = Wide(5, narrow=3, wide=5)
        self.assertEqual(reckon(word="not", operands=[one]), ~one)
        self.assertEqual(narrowly(word="not", operands=(one,)), 2)


class Differences(Case):
    def check(self, word, dresses, narrow, wide):
        """What difference tells is a difference; whether there is one is told by a search."""
        found = difference(word, dresses, narrow=narrow, wide=wide)
        texts = [Dress(text).marks if isinstance(text, str) else text.marks for text in dresses]
        self.assertIs(found is not None, can_differ(word, texts, narrow, wide), (word, texts))
        if found is None:
            return
        self.assertIsInstance(found, tuple)
        self.assertEqual(len(found), len(texts))
        for one, text in zip(found, texts):
            self.assertEqual([one.narrow, one.wide], [narrow, wide])
            self.assertLessEqual(set(text), true_marks(one.bits, narrow, wide))
        self.assertTrue(differs(word, [one.bits for one in found], narrow, wide))
        self.assertNotEqual(reckon(word, found).low, narrowly(word, found))

    def test_beside_a_search_of_all(self):
        for narrow, wide in ((2, 4), (2, 5), (3, 5)):
            for word in RECKONING:
                for texts in itertools.product(TEXTS, repeat=TABLE[word].arity):
                    self.check(word, texts, narrow, wide)

    def test_the_greatest_sizes(self):
        for narrow, wide in ((5, 7), (2, 7)):
            for word, texts in (("add", ("", "")), ("ult", ("z", "s")), ("slt", ("", "s")),
                                ("urem", ("z", "z")), ("shr", ("",)), ("sar", ("z",))):
                self.check(word, texts, narrow, wide)

    def test_none_where_a_need_holds(self):
        for word in RECKONING:
            for texts in itertools.product(TEXTS, repeat=TABLE[word].arity):
                if known(word).holds(texts):
                    self.assertIsNone(difference(word, texts, narrow=3, wide=5))

    def test_dresses_of_all_forms(self):
        for dresses in (["z", "s"], ("z", "s"), [Dress("z"), "s"], (Dress("z"), Dress("s")), ["sz", ""]):
            self.check("ult", dresses, 2, 4)
        self.assertIsNone(difference(word="shr", dresses=["sz"], narrow=2, wide=4))

    def test_words_that_are_refused(self):
        for bad in ["load", "loadz", "loads", "one", "store"] + NO_WORDS:
            self.refused(NoOperation, bad, difference, bad, None, narrow=None, wide=None)

    def test_dresses_that_are_refused(self):
        chance = random.Random(7)
        for word in RECKONING:
            arity = TABLE[word].arity
            wrong = [["z"] * (arity + 1), ["z"] * (arity - 1), "zs", Dress("z")]
            wrong.extend(["z"] * (arity - 1) + [bad] for bad in ["zz", "a", 0] + odd_values())
            for bad in wrong + odd_values():
                size = chance.choice([None, 3])
                self.refused(BadDress, bad, difference, word, bad, narrow=size, wide=None)

    def test_sizes_that_are_refused(self):
        for bad in [1, 31, 0, -2, "2"] + odd_values():
            self.refused(BadNumber, bad, difference, "shr", ["z"], narrow=bad, wide=None)
        for bad in [3, 8, 32, 0, "4"] + odd_values():
            self.refused(BadNumber, bad, difference, "shr", ["z"], narrow=2, wide=bad)
        for narrow in range(6, 31):
            for wide in (7, narrow + 2):
                self.refused(BadNumber, wide, difference, "shr", ["z"], narrow=narrow, wide=wide)
        self.assertIsNone(difference("shr", ["z"], narrow=5, wide=7))


if __name__ == "__main__":
    unittest.main()
