"""Point [27]: drafts."""

import random
import unittest

from signskept.drafts import Draft, tried
from signskept.errors import BadChange, BadDraft, BadKind, BadProgram, BadRow, NoPlace, NothingToUndo
from signskept.programs import Program
from tests.helpers import Agreeable, Angry, Case, odd_values
from tests.plain import random_program, random_row

BLOCKS = {"p": ((("move", "a", "b"), ("widen", "z", "a")), ("q",)), "q": ((), ())}
LOAD = ("do", "a", "load")
WRONG_PLACES = [("p", 3), ("p", -1), ("r", 0), ("p", True), ["p", 0], "p", ("p",), (Angry(), 0)]
WRONG_ROWS = [("move", "a"), ["move", "a", "b"], ("do", "a", "lode"), ("widen", "zs", "a"), (Agreeable(), "a", "b")]


def start():
    return Program("p", BLOCKS, starts={"a": "z"})


class Other(Exception):
    """An exception of nobody."""


def random_edit(chance, program):
    """An edit that often can be made, for a program as it is."""
    names, words = ["a", "b", "x"], ["load", "add", "shr"]
    word = chance.choice(program.words + ("r",))
    place = (word, chance.randint(0, 3))
    kind = chance.choice(["row", "more", "more", "out"])
    if kind != "out":
        return (kind, place, random_row(chance, names, words))
    return ("out", chance.sample(program.places(), min(len(program.places()), chance.randint(0, 2))))


def made(program, edit):
    """The program behind an edit, by the methods of Program."""
    calls = {"row": program.with_row, "more": program.with_more, "out": program.without}
    return calls[edit[0]](*edit[1:])


def make(draft, edit):
    calls = {"row": draft.put_row, "more": draft.put_more, "out": draft.take_out}
    return calls[edit[0]](*edit[1:])


class Changes(Case):
    def check(self, draft, history):
        """All that a draft tells, beside all programs that it was, the last one now."""
        now = history[-1]
        self.assertEqual([draft.now(), len(draft)], [now, len(history) - 1])
        for place in now.places():
            self.assertEqual(draft[place], now[place])

    def test_beside_the_methods_of_programs(self):
        chance = random.Random(270)
        refused = 0
        for _ in range(60):
            first, blocks, starts = random_program(chance, many_blocks=2)
            program = Program(first, blocks, starts=starts)
            draft, history = Draft(program=program), [program]
            for _ in range(12):
                edit = random_edit(chance, draft.now())
                try:
                    history.append(made(draft.now(), edit))
                except (NoPlace, BadRow) as error:
                    self.refused(type(error), error.value, make, draft, edit)
                    refused += 1
                else:
                    self.assertIsNone(make(draft, edit))
                self.check(draft, history)
                if chance.random() < 0.3 and len(history) > 1:
                    history.pop()
                    self.assertIsNone(draft.undo())
                    self.check(draft, history)
            while len(history) > 1:
                history.pop()
                draft.undo()
                self.check(draft, history)
            self.assertRaises(NothingToUndo, draft.undo)
            self.check(draft, [program])
        self.assertGreater(refused, 20)

    def test_items(self):
        draft = Draft(start())
        self.assertEqual([draft["p", 0], draft["p", 1]], list(BLOCKS["p"][0]))
        draft["p", 0] = LOAD
        self.assertEqual([draft["p", 0], len(draft)], [LOAD, 1])
        draft.put_row(place=("p", 1), row=("move", "x", "a"))
        draft.put_more(place=("q", 0), row=LOAD)
        draft.take_out(places=[("p", 0)])
        self.assertEqual(draft.now(), start().with_row(("p", 0), LOAD).with_row(("p", 1), ("move", "x", "a"))
                         .with_more(("q", 0), LOAD).without([("p", 0)]))
        self.assertEqual([draft.now().variables, len(draft)], [("a", "b", "x"), 4])

    def test_a_change_that_leads_to_an_equal_program(self):
        draft = Draft(start())
        draft["p", 0] = draft["p", 0]
        draft.take_out([])
        draft.put_row(("p", 1), ("widen", "z", "a"))
        self.assertEqual([draft.now(), len(draft)], [start(), 3])
        self.assertNotEqual(draft, Draft(start()))
        draft.undo()
        draft.undo()
        draft.undo()
        self.assertEqual(draft, Draft(start()))

    def test_nothing_to_undo(self):
        draft = Draft(start())
        self.assertEqual(len(draft), 0)
        for _ in range(2):
            with self.assertRaises(NothingToUndo) as caught:
                draft.undo()
            self.assertIs(type(caught.exception), NothingToUndo)
        draft.take_out([("p", 0)])
        draft.undo()
        self.assertRaises(NothingToUndo, draft.undo)
        self.assertEqual(draft, Draft(start()))

    def test_what_is_refused_changes_nothing(self):
        draft = Draft(start())
        draft.take_out([("p", 0)])
        same = draft.copy()
        for bad in WRONG_PLACES + odd_values():
            self.refused(NoPlace, bad, lambda: draft[bad])
            self.refused(NoPlace, bad, draft.__setitem__, bad, None)
            self.refused(NoPlace, bad, draft.put_row, bad, None)
            self.refused(NoPlace, bad, draft.put_more, bad, None)
            if repr(bad) != "[]":
                self.refused(NoPlace, bad, draft.take_out, bad)
            self.refused(NoPlace, places := [("p", 0), bad], draft.take_out, places)
        for bad in WRONG_ROWS + odd_values():
            self.refused(BadRow, bad, draft.__setitem__, ("p", 0), bad)
            self.refused(BadRow, bad, draft.put_row, ("p", 0), bad)
            self.refused(BadRow, bad, draft.put_more, ("p", 1), bad)
        self.refused(NoPlace, twice := [("p", 0), ("p", 0)], draft.take_out, twice)
        self.refused(NoPlace, at := ("p", 1), draft.put_row, at, LOAD)
        self.assertEqual([draft, len(draft)], [same, 1])

    def test_rows_with_which_a_rule_is_broken(self):
        draft = Draft(Program("p", {"p": ((LOAD,) * 59, ())}))
        draft.put_more(("p", 59), LOAD)
        self.refused(BadRow, LOAD, draft.put_more, ("p", 60), LOAD)
        self.assertEqual([len(draft), len(draft.now().places())], [1, 60])

    def test_programs_that_are_none(self):
        for bad in ["p", BLOCKS, Program, Draft(start())] + odd_values():
            self.refused(BadProgram, bad, Draft, bad)

    def test_a_draft_is_not_iterated_over(self):
        self.assertRaises(TypeError, list, Draft(start()))


class Copies(Case):
    def test_a_copy_goes_on_by_itself(self):
        draft = Draft(start())
        draft["p", 0] = LOAD
        other = draft.copy()
        self.assertEqual([other, len(other)], [draft, 1])
        self.assertIsNot(other, draft)
        other.take_out([("p", 1)])
        self.assertEqual([len(draft), len(other)], [1, 2])
        self.assertNotEqual(draft, other)
        draft.undo()
        self.assertEqual([draft.now(), len(draft), len(other)], [start(), 0, 2])
        other.undo()
        other.undo()
        self.assertEqual(other, draft)

    def test_equality(self):
        draft, other = Draft(start()), Draft(start())
        self.assertEqual(draft, other)
        draft.put_row(("p", 0), LOAD)
        other["p", 0] = LOAD
        self.assertEqual(draft, other)
        self.assertFalse(draft != other)
        self.assertNotEqual(draft, Draft(start().with_row(("p", 0), LOAD)))
        self.assertNotEqual(Draft(start()), Draft(start().with_row(("p", 0), LOAD)))
        other["p", 1] = LOAD
        draft["p", 1] = ("move", "b", "a")
        self.assertNotEqual(draft, other)
        draft.undo()
        other.undo()
        for value in [start(), draft.now(), None, [start()]] + odd_values():
            self.assertIs(draft.__eq__(value), False)

    def test_equal_by_other_ways(self):
        one, other = Draft(start()), Draft(start())
        one.put_more(("p", 0), LOAD)
        one.take_out([("p", 0)])
        # The same programs, though other changes led to them.
        other.put_more(("p", 0), LOAD)
        other.take_out((("p", 0),))
        self.assertEqual(one, other)
        third = Draft(start())
        third.put_more(("p", 0), LOAD)
        third.undo()
        self.assertEqual([third.now() == one.now(), third == one, third == Draft(start())], [True, False, True])
        # The same program now, and as many changes, but another one between.
        fourth = Draft(start())
        fourth.put_more(("p", 2), LOAD)
        fourth.take_out([("p", 2)])
        self.assertEqual([fourth.now(), len(fourth)], [one.now(), len(one)])
        self.assertNotEqual(fourth, one)
        # Two ways to one program in between: as a row of its own, or put ahead.
        fifth, sixth = Draft(start()), Draft(start())
        fifth.put_row(("p", 1), ("move", "a", "b"))
        sixth.put_row(("p", 1), ("move", "a", "b"))
        fifth.put_more(("p", 0), ("move", "a", "b"))
        sixth.put_more(("p", 2), ("move", "a", "b"))
        self.assertEqual(fifth, sixth)


class Trials(Case):
    def test_kept(self):
        draft = Draft(start())
        draft["p", 0] = LOAD
        with draft.trial() as work:
            self.assertIsInstance(work, Draft)
            self.assertIs(work.keep, True)
            self.assertEqual(work, draft)
            work.put_more(("q", 0), LOAD)
            work.take_out([("p", 0)])
            self.assertEqual([len(draft), len(work)], [1, 3])
        self.assertEqual(draft, work)
        self.assertEqual(len(draft), 3)
        # The copy goes on by itself behind the block, too.
        work.undo()
        self.assertEqual([len(draft), len(work)], [3, 2])
        draft.undo()
        draft.undo()
        draft.undo()
        self.assertEqual(draft, Draft(start()))

    def test_kept_with_fewer_changes_than_before(self):
        draft = Draft(start())
        draft["p", 0] = LOAD
        with draft.trial() as work:
            work.undo()
            self.assertRaises(NothingToUndo, work.undo)
        self.assertEqual(draft, Draft(start()))

    def test_nothing_done(self):
        draft = Draft(start())
        with draft.trial():
            pass
        self.assertEqual(draft, Draft(start()))

    def test_not_kept(self):
        draft = Draft(start())
        with draft.trial() as work:
            work["p", 0] = LOAD
            work.keep = None
        self.assertEqual([draft, len(work)], [Draft(start()), 1])

    def test_kept_again(self):
        draft = Draft(start())
        with draft.trial() as work:
            work.keep = None
            work["p", 0] = LOAD
            work.keep = True
        self.assertEqual(draft, work)

    def test_left_by_an_exception(self):
        for error in (Other(), KeyError(1), ValueError(), KeyboardInterrupt(), StopIteration(), NoPlace(1)):
            draft = Draft(start())
            with self.assertRaises(type(error)) as caught:
                with draft.trial() as work:
                    work["p", 0] = LOAD
                    raise error
            self.assertIs(caught.exception, error)
            self.assertEqual([draft, len(work)], [Draft(start()), 1])
        with self.assertRaises(NoPlace):
            with draft.trial() as work:
                work["p", 0] = LOAD
                work["p", 7] = LOAD
        self.assertEqual(draft, Draft(start()))

    def test_an_exception_that_does_not_leave_the_block(self):
        draft = Draft(start())
        with draft.trial() as work:
            work["p", 0] = LOAD
            self.refused(NoPlace, place := ("p", 7), work.put_row, place, LOAD)
        self.assertEqual([draft, len(draft)], [work, 1])

    def test_left_by_return_and_break(self):
        draft = Draft(start())

        def leave():
            with draft.trial() as work:
                work["p", 0] = LOAD
                return 5
        self.assertEqual([leave(), len(draft)], [5, 1])
        for _ in range(3):
            with draft.trial() as work:
                work["p", 1] = LOAD
                break
        self.assertEqual(len(draft), 2)

    def test_the_copy_is_made_when_the_block_begins(self):
        draft = Draft(start())
        trial = draft.trial()
        draft["p", 0] = LOAD
        with trial as work:
            self.assertEqual([work["p", 0], len(work)], [LOAD, 1])
            draft["p", 1] = LOAD
            self.assertEqual(len(work), 1)
        self.assertEqual([draft, len(draft)], [work, 1])

    def test_one_in_another(self):
        draft = Draft(start())
        with draft.trial() as work:
            work["p", 0] = LOAD
            work.keep = None
            with work.trial() as inner:
                self.assertIs(inner.keep, True)
                inner["p", 1] = LOAD
            self.assertEqual([len(work), work.keep], [2, None])
            work.keep = True
            with work.trial() as inner:
                inner.take_out([("p", 0)])
                inner.keep = None
            self.assertEqual(len(work), 2)
        self.assertEqual([len(draft), draft["p", 1]], [2, LOAD])

    def test_keep_of_the_draft_itself(self):
        draft = Draft(start())
        self.assertIs(draft.keep, True)
        self.assertIs(draft.copy().keep, True)


class Tried(Case):
    def test_beside_the_methods_of_programs(self):
        chance = random.Random(271)
        seen = set()
        for _ in range(150):
            first, blocks, starts = random_program(chance, many_blocks=2)
            program = Program(first, blocks, starts=starts)
            draft = Draft(program)
            draft.take_out([])
            before, history, edits, wrong = draft.copy(), [program, program], [], None
            for index in range(chance.randint(0, 5)):
                edit = random_edit(chance, history[-1])
                edits.append(edit)
                try:
                    history.append(made(history[-1], edit))
                except (NoPlace, BadRow) as error:
                    wrong = (index, error)
                    edits.append(("row", None, None))
                    break
            edits = chance.choice([list, tuple])(edits)
            keep = chance.choice([True, False])
            seen.add((wrong is None, keep, len(edits) > 2))
            if wrong is not None:
                with self.assertRaises(BadChange) as caught:
                    tried(draft, edits, keep=keep)
                self.assertEqual([caught.exception.value, type(caught.exception)], [wrong[0], BadChange])
                cause = caught.exception.__cause__
                self.assertIs(type(cause), type(wrong[1]))
                self.assertIs(cause.value, wrong[1].value)
                self.assertEqual([draft, len(draft)], [before, 1])
                continue
            self.assertEqual(tried(draft, edits, keep=keep), history[-1])
            self.assertEqual(len(draft), len(history) - 1 if keep else 1)
            if not keep:
                self.assertEqual(draft, before)
            while keep and len(history) > 1:
                self.assertEqual(draft.now(), history.pop())
                draft.undo()
        self.assertGreaterEqual(len(seen), 8)

    def test_by_hand(self):
        draft = Draft(start())
        edits = [("row", ("p", 0), LOAD), ("more", ("p", 2), LOAD), ("out", (("p", 1), ("p", 0)))]
        due = Program("p", {"p": ((LOAD,), ("q",)), "q": ((), ())}, starts={"a": "z", "b": ""})
        self.assertEqual([tried(draft, edits, keep=False), len(draft)], [due, 0])
        self.assertEqual([tried(draft=draft, edits=edits), len(draft)], [due, 3])
        self.assertEqual(draft.now(), due)
        self.assertEqual([tried(draft, []), tried(draft, ()), len(draft)], [due, due, 3])
        self.assertEqual(len(edits), 3)

    def test_the_first_edit_that_cannot_be_made(self):
        draft = Draft(start())
        fine = ("more", ("p", 0), LOAD)
        for wrong, kind, value in [(("row", ("p", 9), LOAD), NoPlace, ("p", 9)), (("out", [("q", 0)]), NoPlace, [("q", 0)]),
                                   (("row", ("p", 0), ("move", "a")), BadRow, ("move", "a")), (("row", None, None), NoPlace, None),
                                   (("more", ("q", 1), LOAD), NoPlace, ("q", 1)), (("out", None), NoPlace, None),
                                   (("more", ("p", 0), None), BadRow, None)]:
            for index in range(3):
                edits = [fine] * index + [wrong, ("out", 5), fine]
                for keep in (True, False):
                    with self.assertRaises(BadChange) as caught:
                        tried(draft, edits, keep=keep)
                    self.assertEqual(caught.exception.value, index)
                    self.assertIs(type(caught.exception.__cause__), kind)
                    self.assertEqual(caught.exception.__cause__.value, value)
                    self.assertEqual(draft, Draft(start()))

    def test_any_values_in_edits(self):
        for bad in odd_values():
            for edit in (("row", bad, LOAD), ("more", bad, LOAD), ("out", [bad]), ("row", ("p", 0), bad), ("more", ("p", 0), bad)):
                self.refused(BadChange, 1, tried, Draft(start()), [("out", []), edit])

    def test_edits_of_another_form(self):
        fine = ("out", [])
        draft = Draft(start())
        for bad in [("row", ("p", 0)), ("out",), ("out", [], []), ("row", ("p", 0), LOAD, 1), ("rows", ("p", 0), LOAD), (), "out",
                    ["out", []], ("more", ("p", 0)), ("put", ("p", 0), "z", "a"), (None, []), (["out"], []), (Angry(), []),
                    (Agreeable(), [])] + odd_values():
            for edits in ([bad], [fine, bad], (fine, bad), [bad, fine], [("row", 0, 0), bad]):
                self.refused(BadChange, edits, tried, draft, edits, keep=None)
        for bad in [{("out", ()): 1}, fine, iter([fine]), "", {}, set()] + odd_values():
            if repr(bad) != "[]":
                self.refused(BadChange, bad, tried, draft, bad)
        self.assertEqual(draft, Draft(start()))

    def test_what_is_refused_in_the_told_order(self):
        for bad in [start(), "p", Draft, Draft(start()).trial()] + odd_values():
            self.refused(BadDraft, bad, tried, bad, None, keep=None)
        self.refused(BadChange, None, tried, Draft(start()), None, keep=None)
        for bad in [0, 1, None, "True", 1.0, [], Angry(), Agreeable()]:
            self.refused(BadKind, bad, tried, Draft(start()), [("row", None, None)], keep=bad)
        self.refused(BadChange, 0, tried, Draft(start()), [("row", None, None)], keep=False)
        self.assertRaises(TypeError, tried, Draft(start()), [], True)


if __name__ == "__main__":
    unittest.main()
