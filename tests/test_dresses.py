"""Point [4]: dresses."""

import operator
import unittest

from signskept.dresses import Dress
from signskept.errors import BadDress, BadMark
from tests.helpers import Agreeable, Angry, Case, odd_values
from tests.plain import TEXTS, text_of

ORDERS = {"": [""], "z": ["z"], "s": ["s"], "zs": ["zs", "sz"]}
SIGNS = [(operator.and_, operator.iand, lambda a, b: a & b),
         (operator.or_, operator.ior, lambda a, b: a | b),
         (operator.sub, operator.isub, lambda a, b: a - b)]
NO_TEXTS = ["zz", "ss", "a", "zsz", "szs", "Z", "z ", " z", "-", "z,s", 0, 1, -1] + odd_values()


def pairs():
    return [(one, other) for one in TEXTS for other in TEXTS]


class Makings(Case):
    def test_marks_in_any_order(self):
        for marks, orders in ORDERS.items():
            for text in orders:
                self.assertEqual(Dress(text).marks, marks)
                self.assertEqual(Dress(marks=text).marks, marks)
        self.assertEqual(Dress().marks, "")

    def test_both_and_none(self):
        self.assertEqual(Dress.both().marks, "zs")
        self.assertEqual(Dress.none().marks, "")
        self.assertEqual(Dress("z").both().marks, "zs")
        self.assertEqual(Dress("z").none().marks, "")

    def test_what_is_no_text_of_marks(self):
        for value in NO_TEXTS + [Dress("z"), Dress()]:
            self.refused(BadDress, value, Dress, value)

    def test_str_and_repr(self):
        told = {"": "-", "z": "z", "s": "s", "zs": "zs"}
        for marks, orders in ORDERS.items():
            for text in orders:
                self.assertEqual(str(Dress(text)), told[marks])
                self.assertEqual(f"{Dress(text)}", told[marks])
                self.assertEqual(repr(Dress(text)), f"Dress('{marks}')")
                self.assertEqual(eval(repr(Dress(text))), Dress(text))

    def test_equality(self):
        for one, other in pairs():
            for text in ORDERS[other]:
                self.assertEqual(Dress(one) == Dress(text), one == other)
                self.assertEqual(Dress(one) != Dress(text), one != other)
        for value in NO_TEXTS + list(TEXTS):
            self.assertIs(Dress("z").__eq__(value), False)
        self.assertFalse(Dress("z") == Agreeable())
        self.assertTrue(Dress("z") != Agreeable())

    def test_marks_cannot_be_set(self):
        with self.assertRaises(AttributeError):
            Dress("z").marks = "s"


class Questions(Case):
    def test_in(self):
        for marks in TEXTS:
            for mark in ("z", "s"):
                self.assertIs(mark in Dress(marks), mark in marks)
            for value in ["", "zs", "sz", "a", 0, 1, Dress(marks)] + odd_values():
                self.assertIs(value in Dress(marks), False)

    def test_len_iteration_and_truth(self):
        for marks, orders in ORDERS.items():
            for text in orders:
                dress = Dress(text)
                self.assertEqual(len(dress), len(marks))
                self.assertEqual(list(dress), list(marks))
                self.assertEqual([mark for mark in dress], list(marks))
                self.assertIs(bool(dress), marks != "")

    def test_within(self):
        for one, other in pairs():
            due = set(one) <= set(other)
            self.assertIs(Dress(one).within(Dress(other)), due)
            for text in ORDERS[other]:
                self.assertIs(Dress(one).within(text), due)
                self.assertIs(Dress(one).within(other=text), due)
        for value in NO_TEXTS:
            for marks in TEXTS:
                self.refused(BadDress, value, Dress(marks).within, value)

    def test_widened(self):
        told = {"": {"z": "z", "s": "s"}, "z": {"z": "z", "s": "s"},
                "s": {"z": "z", "s": "s"}, "zs": {"z": "zs", "s": "zs"}}
        for marks in TEXTS:
            for mark in ("z", "s"):
                dress = Dress(marks)
                self.assertEqual(dress.widened(mark), Dress(told[marks][mark]))
                self.assertEqual(dress.widened(mark=mark), Dress(told[marks][mark]))
                self.assertEqual(dress.marks, marks)
            for value in ["", "zs", "sz", "a", 0, 1, Dress("z")] + odd_values():
                self.refused(BadMark, value, Dress(marks).widened, value)


class Signs(Case):
    def test_all_pairs(self):
        for sign, _, rule in SIGNS:
            for one, other in pairs():
                due = Dress(text_of(rule(set(one), set(other))))
                self.assertEqual(sign(Dress(one), Dress(other)), due)
                for text in ORDERS[other]:
                    self.assertEqual(sign(Dress(one), text), due)
                for text in ORDERS[one]:
                    self.assertEqual(sign(text, Dress(other)), due)

    def test_all_pairs_in_place(self):
        for _, sign, rule in SIGNS:
            for one, other in pairs():
                due = Dress(text_of(rule(set(one), set(other))))
                for second in [Dress(other)] + ORDERS[other]:
                    first = kept = Dress(one)
                    first = sign(first, second)
                    self.assertEqual(first, due)
                    self.assertIsInstance(first, Dress)
                    self.assertEqual(kept, Dress(one))
                for text in ORDERS[one]:
                    self.assertEqual(sign(text, Dress(other)), due)

    def test_names_mean_a_new_dress(self):
        one = kept = Dress("z")
        one |= "s"
        self.assertEqual([one, kept], [Dress("zs"), Dress("z")])
        one &= Dress("s")
        self.assertEqual([one, kept], [Dress("s"), Dress("z")])
        one -= "sz"
        self.assertEqual([one, kept], [Dress(), Dress("z")])
        text = "z"
        text |= Dress("s")
        self.assertEqual(text, Dress("zs"))

    def test_a_dress_stays_as_it_was(self):
        for one, other in pairs():
            first, second = Dress(one), Dress(other)
            for sign, _, _ in SIGNS:
                sign(first, second)
                sign(first, other)
                sign(one, second)
            first.within(second)
            self.assertEqual([first.marks, second.marks], [one, other])

    def test_values_that_are_no_dress(self):
        for sign, in_place, _ in SIGNS:
            for value in NO_TEXTS:
                for marks in TEXTS:
                    dress = Dress(marks)
                    self.refused(BadDress, value, sign, dress, value)
                    self.refused(BadDress, value, in_place, dress, value)
                    self.assertEqual(dress, Dress(marks))
                    self.refused(BadDress, value, sign, value, dress)

    def test_a_left_side_that_answers_by_itself(self):
        class Proud:
            def __and__(self, other):
                return "mine"

        self.assertEqual(Proud() & Dress("z"), "mine")
        angry = Angry()
        self.refused(BadDress, angry, lambda: angry | Dress("z"))


if __name__ == "__main__":
    unittest.main()
