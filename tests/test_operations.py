"""Point [6]: operations."""

import itertools
import random
import unittest

from signskept.dresses import Dress
from signskept.errors import BadArity, BadDress, BadOperation, BadWants
from signskept.operations import Operation
from tests.helpers import Agreeable, Case, odd_values
from tests.plain import TEXTS

NO_ARITIES = [-1, 4, 10 ** 30, "1", 1.0, (1,)] + odd_values()


def wrong_rows(arity):
    """Values that are no rows of wants for so many operands, wherever they are handed in."""
    short, long = ("z",) * (arity - 1), ("z",) * (arity + 1)
    found = [(long,), [("",) * arity], ([""] * arity,), "z", ("z",), {}, (("",) * arity,) * 5,
             (("",) * arity, None), (("",) * arity, long)]
    if arity > 0:
        found.append((short,))
        for want in ("sz", "zz", "a", "-", 0, None, True, ["z"], Dress("z"), Agreeable()):
            found.append((("",) * arity, ("",) * (arity - 1) + (want,)))
    # None is right for needs, and (("z",),) for one operand.
    return found + [value for value in odd_values()
                    if value is not None and repr(value) != repr((("z",) * arity,))]


def random_operation(chance, arity):
    """An operation with some rows of wants."""
    def rows(least):
        return tuple(tuple(chance.choice(TEXTS) for _ in range(arity))
                     for _ in range(chance.randint(least, 4)))

    needs = None if chance.random() < 0.3 else rows(1)
    return Operation(arity, needs, z=rows(0), s=rows(0))


def row_holds(rows, texts):
    return any(all(set(want) <= set(text) for want, text in zip(row, texts)) for row in rows)


class Makings(Case):
    def test_properties_as_handed_in(self):
        needs = (("z", ""), ("zs", "s"))
        z = (("s", "s"), ("", ""), ("z", "z"), ("zs", "zs"))
        one = Operation(2, needs, z=z, s=(("", "s"),))
        self.assertEqual([one.arity, one.needs, one.z, one.s], [2, needs, z, (("", "s"),)])
        self.assertEqual(Operation(arity=2, needs=needs, z=z, s=(("", "s"),)), one)

    def test_nothing_handed_in(self):
        for arity in range(4):
            one = Operation(arity)
            self.assertEqual([one.arity, one.needs, one.z, one.s], [arity, (("",) * arity,), (), ()])
            self.assertEqual(Operation(arity, None), one)

    def test_four_rows_are_the_most(self):
        for arity in range(4):
            row = ("z",) * arity
            one = Operation(arity, (row,) * 4, z=(row,) * 4, s=(row,) * 4)
            self.assertEqual([len(one.needs), len(one.z), len(one.s)], [4, 4, 4])
            self.refused(BadWants, five := (row,) * 5, Operation, arity, five)
            self.refused(BadWants, five, Operation, arity, z=five)
            self.refused(BadWants, five, Operation, arity, s=five)

    def test_needs_have_at_least_one_row(self):
        for arity in range(4):
            self.refused(BadWants, none := (), Operation, arity, none)
            self.assertEqual(Operation(arity, z=(), s=()).z, ())

    def test_z_and_s_by_name_alone(self):
        self.assertRaises(TypeError, Operation, 1, None, (), ())
        self.assertRaises(TypeError, Operation)

    def test_arities_that_are_none(self):
        for bad in NO_ARITIES:
            self.refused(BadArity, bad, Operation, bad)
            self.refused(BadArity, bad, Operation, bad, "n", z="z", s="s")

    def test_wants_that_are_none(self):
        for arity in range(4):
            for bad in wrong_rows(arity):
                self.refused(BadWants, bad, Operation, arity, bad)
                self.refused(BadWants, bad, Operation, arity, bad, z="z", s="s")
                self.refused(BadWants, bad, Operation, arity, z=bad)
                self.refused(BadWants, bad, Operation, arity, z=bad, s="s")
                self.refused(BadWants, bad, Operation, arity, s=bad)
            self.refused(BadWants, None, Operation, arity, z=None)
            self.refused(BadWants, None, Operation, arity, s=None)

    def test_rows_of_another_arity(self):
        for arity, other in itertools.permutations(range(4), 2):
            self.refused(BadWants, rows := (("z",) * other,), Operation, arity, rows)
            self.refused(BadWants, rows, Operation, arity, z=rows)

    def test_equality(self):
        one = Operation(1, (("z",),), z=(("z",),), s=(("s",),))
        self.assertEqual(one, Operation(1, (("z",),), z=(("z",),), s=(("s",),)))
        others = [Operation(1, (("s",),), z=(("z",),), s=(("s",),)),
                  Operation(1, (("z",),), z=(("s",),), s=(("s",),)),
                  Operation(1, (("z",),), z=(("z",),), s=(("z",),)),
                  Operation(1, (("z",), ("z",)), z=(("z",),), s=(("s",),)), Operation(1), Operation(0)]
        for other in others:
            self.assertFalse(one == other)
            self.assertTrue(one != other)
        self.assertEqual(Operation(2), Operation(2, (("", ""),)))
        self.assertNotEqual(Operation(0), Operation(1))
        for value in odd_values():
            self.assertIs(one.__eq__(value), False)

    def test_nothing_can_be_set(self):
        for name in ("arity", "needs", "z", "s"):
            self.assertRaises(AttributeError, setattr, Operation(1), name, ())


class Questions(Case):
    def test_holds_and_gives_beside_sets(self):
        chance = random.Random(6)
        for arity in range(4):
            for _ in range(40):
                one = random_operation(chance, arity)
                for texts in itertools.product(TEXTS, repeat=arity):
                    given = ("z" if row_holds(one.z, texts) else "") + ("s" if row_holds(one.s, texts) else "")
                    for dresses in (texts, list(texts), [Dress(text) for text in texts],
                                    tuple(Dress(text) for text in texts), [text[::-1] for text in texts]):
                        self.assertIs(one.holds(dresses), row_holds(one.needs, texts))
                        self.assertEqual(one.gives(dresses), Dress(given))

    def test_dresses_and_texts_together(self):
        one = Operation(3, (("z", "s", "zs"),), z=(("z", "", ""),))
        self.assertIs(one.holds(dresses=["z", Dress("s"), "sz"]), True)
        self.assertIs(one.holds(("z", Dress("s"), Dress("s"))), False)
        self.assertEqual(one.gives(dresses=(Dress("zs"), "", "s")), Dress("z"))

    def test_no_operands(self):
        one = Operation(0, z=((),))
        self.assertIs(one.holds([]), True)
        self.assertEqual([one.gives(()), Operation(0).gives([])], [Dress("z"), Dress()])

    def test_an_empty_want_always_holds(self):
        for texts in itertools.product(TEXTS, repeat=2):
            self.assertIs(Operation(2).holds(texts), True)

    def test_handed_in_dresses_stay(self):
        dresses = ["sz", Dress("z")]
        Operation(2).gives(dresses)
        self.assertEqual(dresses, ["sz", Dress("z")])

    def test_values_that_are_no_dresses(self):
        for arity in range(4):
            one = Operation(arity, s=(("",) * arity,))
            wrong = [("z",) * (arity + 1), ["z"] * (arity + 1), "z" * arity, Dress("zs")]
            if arity > 0:
                wrong.append(["z"] * (arity - 1))
                wrong.extend(["z"] * (arity - 1) + [bad] for bad in ["zz", "a", 0] + odd_values())
            # An empty list is right for no operands.
            for bad in wrong + [value for value in odd_values() if arity > 0 or repr(value) != "[]"]:
                self.refused(BadDress, bad, one.holds, bad)
                self.refused(BadDress, bad, one.gives, bad)


class Serves(Case):
    def test_beside_all_dresses(self):
        chance = random.Random(66)
        found = []
        for _ in range(600):
            arity = chance.choice([0, 1, 1, 1, 2, 3])
            one, other = random_operation(chance, arity), random_operation(chance, arity)
            due = all(one.holds(texts) and set(other.gives(texts)) <= set(one.gives(texts))
                      for texts in itertools.product(TEXTS, repeat=arity) if other.holds(texts))
            self.assertIs(one.serves(other), due)
            self.assertIs(one.serves(one), True)
            found.append(due)
        self.assertIn(True, found)
        self.assertIn(False, found)

    def test_another_arity(self):
        for arity, other in itertools.permutations(range(4), 2):
            self.assertIs(Operation(arity).serves(Operation(other)), False)

    def test_what_matters(self):
        free, needy = Operation(1), Operation(1, (("z",),))
        self.assertEqual([free.serves(needy), needy.serves(free)], [True, False])
        gives = Operation(1, z=(("",),))
        self.assertEqual([gives.serves(other=free), free.serves(other=gives)], [True, False])
        # What is given where the other one's needs fail does not count.
        self.assertIs(Operation(1, (("z",),), z=(("z",),)).serves(Operation(1, (("z",),), z=(("",),))), True)
        both = Operation(1, (("z",), ("s",)))
        self.assertEqual([both.serves(needy), needy.serves(both)], [True, False])

    def test_values_that_are_no_operation(self):
        for bad in [Operation, Dress("z"), "add", 1] + odd_values():
            self.refused(BadOperation, bad, Operation(1).serves, bad)


if __name__ == "__main__":
    unittest.main()
