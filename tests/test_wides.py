"""Point [5]: wide numbers."""

import operator
import unittest

from signskept.dresses import Dress
from signskept.errors import BadDress, BadMark, BadNumber, Unlike
from signskept.wides import Wide
from tests.helpers import Agreeable, Case, odd_values
from tests.plain import TEXTS, signed, text_of, true_marks

SIZES = [(2, 4), (2, 5), (2, 32), (3, 5), (3, 7), (8, 16), (29, 31), (29, 32), (30, 32)]
VALUES = [0, 1, 2, 3, 5, 6, 7, 8, 12, 20, 255, 2 ** 29, 2 ** 30 - 1, 2 ** 31, 2 ** 32 - 1, 2 ** 32,
          10 ** 39 + 7, -1, -2, -5, -2 ** 31, -2 ** 32 - 3, -10 ** 39 - 7]
SIGNS = [operator.add, operator.sub, operator.mul, operator.and_, operator.or_, operator.xor]
IN_PLACE = [operator.iadd, operator.isub, operator.imul, operator.iand, operator.ior, operator.ixor]
NO_NUMBERS = ["", "z", "1", 1.0, 0.0, 1j] + odd_values()


def some_bits(narrow, wide):
    """Bits of all dresses, for a pair of sizes."""
    top, low, high = 2 ** (narrow - 1), 2 ** narrow - 1, 2 ** wide
    found = [0, 1, top, low, top + low + 1, high - 1, high - top, high - 2 * top, 2 ** narrow, high // 2]
    return [bits % high for bits in found]


class Makings(Case):
    def test_bits_are_modulo_two_to_the_power_of_wide(self):
        for narrow, wide in SIZES:
            for value in VALUES:
                one = Wide(value, narrow=narrow, wide=wide)
                self.assertEqual([one.bits, one.narrow, one.wide], [value % 2 ** wide, narrow, wide])
                self.assertEqual(Wide(value=value, narrow=narrow, wide=wide), one)

    def test_all_sizes(self):
        for narrow in range(-3, 40):
            for wide in range(-3, 40):
                if not 2 <= narrow <= 30:
                    self.refused(BadNumber, narrow, Wide, 5, narrow=narrow, wide=wide)
                elif not narrow + 2 <= wide <= 32:
                    self.refused(BadNumber, wide, Wide, 5, narrow=narrow, wide=wide)
                else:
                    self.assertEqual(Wide(5, narrow=narrow, wide=wide).bits, 5)

    def test_the_first_wrong_argument(self):
        for bad in NO_NUMBERS:
            self.refused(BadNumber, bad, Wide, bad, narrow=3, wide=5)
            self.refused(BadNumber, bad, Wide, bad, narrow="n", wide="w")
            self.refused(BadNumber, bad, Wide, 5, narrow=bad, wide=5)
            self.refused(BadNumber, bad, Wide, 5, narrow=bad, wide="w")
            self.refused(BadNumber, bad, Wide, 5, narrow=3, wide=bad)
        huge = 10 ** 39
        self.refused(BadNumber, huge, Wide, 5, narrow=huge, wide=5)
        self.refused(BadNumber, huge, Wide, 5, narrow=3, wide=huge)

    def test_names_alone(self):
        self.assertRaises(TypeError, Wide, 5, 3, 5)
        self.assertRaises(TypeError, Wide, 5)

    def test_repr(self):
        self.assertEqual(repr(Wide(5, narrow=3, wide=5)), "Wide(5, narrow=3, wide=5)")
        self.assertEqual(repr(Wide(-1, narrow=30, wide=32)), "Wide(4294967295, narrow=30, wide=32)")

    def test_equality(self):
        one = Wide(5, narrow=3, wide=5)
        self.assertTrue(one == Wide(37, narrow=3, wide=5))
        self.assertTrue(one == Wide(-27, narrow=3, wide=5))
        for other in (Wide(6, narrow=3, wide=5), Wide(5, narrow=2, wide=5), Wide(5, narrow=3, wide=6)):
            self.assertTrue(one != other)
            self.assertFalse(one == other)
        for value in [5, "5", (5, 3, 5), Agreeable()] + odd_values():
            self.assertIs(one.__eq__(value), False)

    def test_nothing_can_be_set(self):
        one = Wide(5, narrow=3, wide=5)
        for name in ("bits", "narrow", "wide", "low", "above", "top", "dress"):
            self.assertRaises(AttributeError, setattr, one, name, 1)
        self.assertEqual(one, Wide(5, narrow=3, wide=5))


class Properties(Case):
    def test_beside_plain_integers(self):
        for narrow, wide in SIZES:
            for value in VALUES + some_bits(narrow, wide):
                one = Wide(value, narrow=narrow, wide=wide)
                bits = value % 2 ** wide
                self.assertEqual(one.low, bits % 2 ** narrow)
                self.assertEqual(one.above, bits // 2 ** narrow)
                self.assertEqual(one.top, bits // 2 ** (narrow - 1) % 2)
                self.assertEqual(one.dress, Dress(text_of(true_marks(bits, narrow, wide))))
                self.assertEqual(one.signed(), signed(bits, wide))

    def test_all_small_registers(self):
        for narrow, wide in ((2, 4), (2, 5), (3, 5), (4, 6)):
            for bits in range(2 ** wide):
                one = Wide(bits, narrow=narrow, wide=wide)
                self.assertEqual(one.dress.marks, text_of(true_marks(bits, narrow, wide)))
                self.assertEqual(one.signed(), signed(bits, wide))
                self.assertEqual(one.low + one.above * 2 ** narrow, bits)


class Signs(Case):
    def test_two_wides_and_integers(self):
        for narrow, wide in SIZES:
            for sign, in_place in zip(SIGNS, IN_PLACE):
                for value in VALUES[::2] + some_bits(narrow, wide):
                    for other in VALUES[1::2] + [0, -1, 2 ** wide]:
                        one = Wide(value, narrow=narrow, wide=wide)
                        second = Wide(other, narrow=narrow, wide=wide)
                        due = Wide(sign(value, other), narrow=narrow, wide=wide)
                        self.assertEqual(sign(one, second), due)
                        self.assertEqual(sign(one, other), due)
                        self.assertEqual(sign(value, second), due)
                        self.assertEqual(in_place(one, other), due)
                        self.assertEqual(in_place(one, second), due)
                        self.assertEqual(in_place(value, second), due)
                        self.assertEqual([one.bits, second.bits], [value % 2 ** wide, other % 2 ** wide])

    def test_a_name_means_a_new_wide(self):
        one = kept = Wide(6, narrow=3, wide=5)
        one += 30
        self.assertEqual([one.bits, kept.bits], [4, 6])
        one -= kept
        one *= 3
        one ^= 1
        one |= 8
        one &= 29
        self.assertEqual(one.bits, ((((4 - 6) * 3) ^ 1) | 8) & 29)
        one <<= 2
        one >>= 1
        self.assertEqual([one.narrow, one.wide, kept.bits], [3, 5, 6])
        number = 7
        number -= kept
        self.assertEqual(number, Wide(1, narrow=3, wide=5))

    def test_one_operand(self):
        for narrow, wide in SIZES:
            for value in VALUES + some_bits(narrow, wide):
                one = Wide(value, narrow=narrow, wide=wide)
                self.assertEqual(-one, Wide(-value, narrow=narrow, wide=wide))
                self.assertEqual(~one, Wide(-value - 1, narrow=narrow, wide=wide))
                self.assertEqual(one.bits, value % 2 ** wide)

    def test_moved_bits(self):
        for narrow, wide in SIZES:
            for value in VALUES[::3] + some_bits(narrow, wide):
                one = Wide(value, narrow=narrow, wide=wide)
                for count in range(wide + 1):
                    bits = value % 2 ** wide
                    self.assertEqual((one << count).bits, bits * 2 ** count % 2 ** wide)
                    self.assertEqual((one >> count).bits, bits // 2 ** count)
                    self.assertEqual((one << count).wide, wide)
                    self.assertEqual((one >> count).narrow, narrow)

    def test_counts_that_are_none(self):
        for narrow, wide in SIZES:
            one = Wide(5, narrow=narrow, wide=wide)
            for count in [-1, wide + 1, 10 ** 39, one] + NO_NUMBERS:
                self.refused(BadNumber, count, operator.lshift, one, count)
                self.refused(BadNumber, count, operator.rshift, one, count)
                self.refused(BadNumber, count, operator.ilshift, one, count)

    def test_unlike_operands(self):
        one = Wide(5, narrow=3, wide=5)
        others = [Wide(5, narrow=2, wide=5), Wide(5, narrow=3, wide=6), Dress("z"), "5", 1.0]
        for value in others + NO_NUMBERS:
            for sign, in_place in zip(SIGNS, IN_PLACE):
                self.refused(Unlike, value, sign, one, value)
                self.refused(Unlike, value, in_place, one, value)
                if not isinstance(value, (Wide, Dress)):
                    self.refused(Unlike, value, sign, value, one)
        self.assertEqual(one, Wide(5, narrow=3, wide=5))

    def test_true_is_no_integer_on_the_left(self):
        one = Wide(5, narrow=3, wide=5)
        for value in (True, False):
            for sign in SIGNS:
                self.refused(Unlike, value, sign, value, one)


class Widenings(Case):
    def test_widened(self):
        for narrow, wide in SIZES:
            for value in VALUES + some_bits(narrow, wide):
                one = Wide(value, narrow=narrow, wide=wide)
                low = value % 2 ** narrow
                self.assertEqual(one.widened("z"), Wide(low, narrow=narrow, wide=wide))
                self.assertEqual(one.widened(mark="s"), Wide(signed(low, narrow), narrow=narrow, wide=wide))
                self.assertEqual(one.bits, value % 2 ** wide)
                for mark in "zs":
                    self.assertIn(mark, one.widened(mark).dress)
                    self.assertEqual(one.widened(mark).low, one.low)

    def test_marks_that_are_none(self):
        for value in ["", "zs", "sz", "a", 0, 1, Dress("z")] + odd_values():
            self.refused(BadMark, value, Wide(5, narrow=3, wide=5).widened, value)

    def test_fresh(self):
        for narrow in range(2, 31):
            for wide in range(narrow + 2, 33):
                top = 2 ** (narrow - 1)
                told = {"zs": 0, "sz": 0, "z": top, "s": 2 ** wide - top, "": top + 2 ** narrow}
                for marks, bits in told.items():
                    for dress in (marks, Dress(marks)):
                        one = Wide.fresh(dress, narrow=narrow, wide=wide)
                        self.assertEqual(one, Wide(bits, narrow=narrow, wide=wide))
                        self.assertEqual(one.dress, Dress(marks))

    def test_fresh_by_name_and_of_an_object(self):
        due = Wide(4, narrow=3, wide=5)
        self.assertEqual(Wide.fresh(dress="z", narrow=3, wide=5), due)
        self.assertEqual(due.fresh("z", narrow=3, wide=5), due)
        self.assertRaises(TypeError, Wide.fresh, "z", 3, 5)

    def test_fresh_refuses_in_the_told_order(self):
        for bad in ["zz", "a", 0] + odd_values():
            self.refused(BadDress, bad, Wide.fresh, bad, narrow=3, wide=5)
            self.refused(BadDress, bad, Wide.fresh, bad, narrow="n", wide="w")
        for bad in [1, 31] + NO_NUMBERS:
            self.refused(BadNumber, bad, Wide.fresh, "z", narrow=bad, wide="w")
        for bad in [4, 33] + NO_NUMBERS:
            for marks in TEXTS:
                self.refused(BadNumber, bad, Wide.fresh, marks, narrow=3, wide=bad)


if __name__ == "__main__":
    unittest.main()
