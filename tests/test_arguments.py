"""Points [3] and [28]: all names stand where the document lists them, and each argument may be handed in by its name."""

import importlib
import inspect
import unittest

from signskept.bestbooks import BestBook
from signskept.books import Book
from signskept.cuts import Cheapest
from signskept.dresses import Dress
from signskept.drafts import Draft
from signskept.everyroad import EveryRoad
from signskept.functions import Function, Group
from signskept.leaving import Bench
from signskept.menus import Menu
from signskept.operations import Operation
from signskept.papers import Checker
from signskept.plays import Play
from signskept.programs import Program
from signskept.roads import Walk
from signskept.tables import Table, verdict
from signskept.wholeruns import Run
from signskept.wides import Wide
from tests.helpers import Case

# Each module with what the document lists for it: classes with their arguments, and functions with theirs.
LISTED = {
    "dresses": ["Dress(marks='')"],
    "wides": ["Wide(value, *, narrow, wide)"],
    "operations": ["Operation(arity, needs=None, *, z=(), s=())"],
    "known": ["known_words()", "known(word)", "reckon(word, operands)", "narrowly(word, operands)", "difference(word, dresses, *, narrow, wide)"],
    "programs": ["Program(first, blocks, *, starts=None, table=None)"],
    "roads": ["Walk(program, road)", "is_road(program, thing)", "roads(program, most)"],
    "tables": ["Table(program)", "is_closed(program, entries)", "verdict(program, place)", "verdicts(program)", "is_right(program)", "worst(program)"],
    "plays": ["Play(program, road, run, *, narrow, wide)", "is_true(program, road, run, *, narrow, wide)", "bits_for(program, road, *, narrow, wide)"],
    "leaving": ["Bench(program)", "may_leave(program, places)", "leavable(program)", "greatest(program)", "cheapest_left(program)"],
    "wants": ["unfit(program, mark)", "wanted(program, place, mark)", "gift(program, place, mark)"],
    "spots": ["reached(program)", "goes_of(program)", "points(program)", "spots(program)"],
    "puts": ["unsure(program, mark, puts)", "serves(program, mark, puts)", "placed(program, mark, puts)", "count_on(program, puts, road)"],
    "everyroad": ["EveryRoad(program, mark, variable)", "is_paper(program, mark, variable, paper)"],
    "cuts": ["Cheapest(program, mark, frequencies=None)", "cost_of(program, puts, frequencies=None)", "flow_sum(program, mark, flow, frequencies=None)"],
    "functions": ["Function(first, blocks, *, parameters=(), answer=None, table=None)", "Group(entry, functions, *, starts=None)"],
    "books": ["Book(group, promises=None)", "alone(group, word, book)", "is_kept(group, book)"],
    "wholeruns": ["Run(group, turns, *, most=60)"],
    "joined": ["joined_sum(group, mark, flow, frequencies=None)"],
    "bestbooks": ["BestBook(group, mark, frequencies=None)", "plain_books(group, mark)", "book_cost(group, mark, book, frequencies=None)"],
    "mixed": ["clashes(group, books)", "keepers(group, books)"],
    "menus": ["Menu(program, *changes)"],
    "papers": ["Checker(program)", "paper_of(program)"],
    "texts": ["format_program(program)", "parse_program(text)", "format_run(run)", "parse_run(text)"],
    "drafts": ["Draft(program)", "tried(draft, edits, *, keep=True)"],
}

# The methods that the document lists, with their arguments.
METHODS = {
    "dresses.Dress": ["within(other)", "widened(mark)", "both()", "none()"],
    "wides.Wide": ["signed()", "widened(mark)", "fresh(dress, *, narrow, wide)"],
    "operations.Operation": ["holds(dresses)", "gives(dresses)", "serves(other)"],
    "programs.Program": ["rows(word)", "goes(word)", "starts()", "operation(word)", "places()", "widenings()", "with_row(place, row)", "with_more(place, row)",
                         "without(places)"],
    "roads.Walk": ["dresses()", "fails()"],
    "tables.Table": ["road_to(entry)"],
    "plays.Play": ["wides(index)", "dresses(index)", "fails()"],
    "leaving.Bench": ["leave(places)", "tried(places, asked)"],
    "functions.Group": ["function(word)", "calls(word)", "variables_in(word)"],
    "books.Book": ["within(other)"],
    "wholeruns.Run": ["fails()"],
    "bestbooks.BestBook": ["book()"],
    "menus.Menu": ["changed(chosen)", "helping()", "fewest()", "least()"],
    "papers.Checker": ["__call__(paper)"],
    "drafts.Draft": ["now()", "put_row(place, row)", "put_more(place, row)", "take_out(places)", "undo()", "copy()", "trial()"],
}

PROPERTIES = {
    "dresses.Dress": "marks", "wides.Wide": "bits narrow wide low above top dress", "operations.Operation": "arity needs z s",
    "programs.Program": "first words variables", "roads.Walk": "road steps", "tables.Table": "entries", "tables.Verdict": "place road many entries",
    "leaving.Bench": "whole current left", "everyroad.EveryRoad": "certain already puts paper", "cuts.Cheapest": "puts cost flow",
    "functions.Group": "entry words", "wholeruns.Run": "steps ended", "bestbooks.BestBook": "cost puts flow", "menus.Menu": "program",
    "papers.Checker": "accepted"}

BLOCKS = {"p": ((("do", "a", "load"), ("widen", "z", "a"), ("do", None, "shr", "a")), ())}


def module(name):
    return importlib.import_module("signskept." + name)


def listed(path):
    """A module or a class by its path."""
    name, _, kind = path.partition(".")
    return getattr(module(name), kind)


def shown(name, thing, own=False):
    """A callable with its arguments, as the document writes it; own leaves out the object itself."""
    parts = list(inspect.signature(thing).parameters.values())
    return name + str(inspect.Signature(parts[1:] if own else parts))


class Listed(Case):
    def test_each_stands_in_its_module(self):
        for name, things in LISTED.items():
            for told in things:
                word = told.partition("(")[0]
                thing = getattr(module(name), word)
                self.assertEqual([thing.__module__, thing.__name__], ["signskept." + name, word])
                self.assertIs(isinstance(thing, type), word[0].isupper(), word)
                self.assertEqual(shown(word, thing), told)
        self.assertEqual(listed("tables.Verdict").__module__, "signskept.tables")

    def test_each_method_stands_in_its_class(self):
        for path, methods in METHODS.items():
            for told in methods:
                word = told.partition("(")[0]
                self.assertIn(word, vars(listed(path)))
                thing = vars(listed(path))[word]
                static = isinstance(thing, staticmethod)
                self.assertEqual(shown(word, thing.__func__ if static else thing, not static), told)

    def test_each_property_stands_in_its_class(self):
        for path, names in PROPERTIES.items():
            for name in names.split():
                self.assertIsInstance(vars(listed(path))[name], property)

    def test_attributes_are_there_when_an_object_is_created(self):
        self.assertIs(Draft(Program("p", BLOCKS)).keep, True)
        with Draft(Program("p", BLOCKS)).trial() as work:
            self.assertIs(work.keep, True)


def samples():
    """For each function, class and method that is listed a callable, and arguments by their names."""
    program = Program("p", BLOCKS)
    group = Group("f", {"f": Function("p", BLOCKS, parameters=("b",), answer="a")}, starts={"b": "z"})
    book, places, road, place = Book(group), [("p", 1)], ("p",), ("p", 0)
    run, sizes = ((6,), (6, 0)), {"narrow": 2, "wide": 4}
    paper = EveryRoad(program, "z", "a").paper
    puts, often = [(("p", "", 1), "a")], {("", "p"): 2}
    of_program = {"program": program}
    yield from [(Dress, {"marks": "zs"}), (Wide, {"value": 3, **sizes}), (Operation, {"arity": 1, "needs": (("z",),), "z": (), "s": (("s",),)})]
    yield from [(module("known").known, {"word": "add"}), (module("known").reckon, {"word": "neg", "operands": [Wide(1, **sizes)]}),
                (module("known").narrowly, {"word": "neg", "operands": [Wide(1, **sizes)]}), (module("known").known_words, {}),
                (module("known").difference, {"word": "neg", "dresses": ["z"], **sizes})]
    yield from [(Program, {"first": "p", "blocks": BLOCKS, "starts": {"a": "z"}, "table": {}}), (Walk, {**of_program, "road": road}),
                (module("roads").is_road, {**of_program, "thing": road}), (module("roads").roads, {**of_program, "most": 3})]
    for name in ("Table", "verdicts", "is_right", "worst"):
        yield getattr(module("tables"), name), of_program
    yield from [(module("tables").is_closed, {**of_program, "entries": []}), (verdict, {**of_program, "place": place})]
    yield from [(Play, {**of_program, "road": road, "run": run, **sizes}), (module("plays").is_true, {**of_program, "road": road, "run": run, **sizes}),
                (module("plays").bits_for, {**of_program, "road": road, **sizes})]
    for name in ("Bench", "leavable", "greatest", "cheapest_left"):
        yield getattr(module("leaving"), name), of_program
    yield module("leaving").may_leave, {**of_program, "places": places}
    yield module("wants").unfit, {**of_program, "mark": "z"}
    for name in ("wanted", "gift"):
        yield getattr(module("wants"), name), {**of_program, "place": place, "mark": "z"}
    for name in ("reached", "goes_of", "points", "spots"):
        yield getattr(module("spots"), name), of_program
    for name in ("unsure", "serves", "placed"):
        yield getattr(module("puts"), name), {**of_program, "mark": "z", "puts": puts}
    yield module("puts").count_on, {**of_program, "puts": puts, "road": road}
    yield from [(EveryRoad, {**of_program, "mark": "z", "variable": "a"}),
                (module("everyroad").is_paper, {**of_program, "mark": "z", "variable": "a", "paper": paper})]
    yield from [(Cheapest, {**of_program, "mark": "z", "frequencies": often}), (module("cuts").cost_of, {**of_program, "puts": puts, "frequencies": often}),
                (module("cuts").flow_sum, {**of_program, "mark": "z", "flow": [], "frequencies": often})]
    yield Function, {"first": "p", "blocks": BLOCKS, "parameters": (), "answer": None, "table": None}
    yield Group, {"entry": "f", "functions": {"f": Function("p", BLOCKS)}, "starts": {}}
    yield from [(Book, {"group": group, "promises": {}}), (module("books").alone, {"group": group, "word": "f", "book": book}),
                (module("books").is_kept, {"group": group, "book": book}), (Run, {"group": group, "turns": [], "most": 3})]
    yield from [(module("joined").joined_sum, {"group": group, "mark": "z", "flow": [], "frequencies": {"f": often}}),
                (BestBook, {"group": group, "mark": "z", "frequencies": {"f": often}}), (module("bestbooks").plain_books, {"group": group, "mark": "z"}),
                (module("bestbooks").book_cost, {"group": group, "mark": "z", "book": book, "frequencies": {"f": often}})]
    for name in ("clashes", "keepers"):
        yield getattr(module("mixed"), name), {"group": group, "books": {"f": book}}
    yield from [(Menu, of_program), (Checker, of_program), (module("papers").paper_of, of_program)]
    yield from [(module("texts").format_program, of_program), (module("texts").parse_program, {"text": "first p\nblock p\n"}),
                (module("texts").format_run, {"run": run}), (module("texts").parse_run, {"text": "6; 6 6"})]
    yield from [(Draft, of_program), (module("drafts").tried, {"draft": Draft(program), "edits": [], "keep": False})]
    yield from method_samples(program, group, book)


def method_samples(program, group, book):
    """The same for the methods of objects."""
    places, place, row, sizes = [("p", 1)], ("p", 0), ("do", "a", "one"), {"narrow": 2, "wide": 4}
    yield from [(Dress("z").within, {"other": "zs"}), (Dress("z").widened, {"mark": "s"}), (Dress.both, {}), (Dress.none, {})]
    yield from [(Wide(1, **sizes).signed, {}), (Wide(1, **sizes).widened, {"mark": "z"}), (Wide.fresh, {"dress": "z", **sizes})]
    yield from [(Operation(1).holds, {"dresses": ["z"]}), (Operation(1).gives, {"dresses": ["z"]}), (Operation(1).serves, {"other": Operation(1)})]
    for name in ("rows", "goes"):
        yield getattr(program, name), {"word": "p"}
    yield program.operation, {"word": "add"}
    for name in ("starts", "places", "widenings"):
        yield getattr(program, name), {}
    for name in ("with_row", "with_more"):
        yield getattr(program, name), {"place": place, "row": row}
    yield program.without, {"places": places}
    yield from [(Walk(program, ("p",)).dresses, {}), (Walk(program, ("p",)).fails, {}), (Table(program).road_to, {"entry": ("p", ("",))})]
    play = Play(program, ("p",), ((6,), (6, 0)), **sizes)
    yield from [(play.wides, {"index": 0}), (play.dresses, {"index": 0}), (play.fails, {})]
    yield from [(Bench(program).leave, {"places": places}), (Bench(program).tried, {"places": places, "asked": len})]
    for name in ("function", "calls", "variables_in"):
        yield getattr(group, name), {"word": "f"}
    yield from [(book.within, {"other": book}), (Run(group, []).fails, {}), (BestBook(group, "z").book, {})]
    menu = Menu(program, ("out", place))
    yield from [(menu.changed, {"chosen": (0,)}), (menu.helping, {}), (menu.fewest, {}), (menu.least, {})]
    yield Checker(program), {"paper": ("right", [])}
    for name in ("put_row", "put_more"):
        yield getattr(Draft(program), name), {"place": place, "row": row}
    yield Draft(program).take_out, {"places": []}
    yield from [(Draft(program).now, {}), (Draft(program).copy, {}), (Draft(program).trial, {})]


class Named(Case):
    def shape(self, thing):
        """A value to compare by: what is yielded as a list, and objects without a told equality by their kind."""
        if inspect.isgenerator(thing):
            return [self.shape(part) for part in thing]
        if thing is None or isinstance(thing, (bool, int, str, tuple, list, dict)) or "__eq__" in vars(type(thing)):
            return thing
        names = PROPERTIES.get(type(thing).__module__.partition(".")[2] + "." + type(thing).__name__, "")
        return type(thing), [getattr(thing, name) for name in names.split()]

    def test_by_name_and_by_place(self):
        called = set()
        for call, named in samples():
            parts = inspect.signature(call).parameters.values()
            self.assertEqual([part.name for part in parts if part.kind is not part.VAR_POSITIONAL], list(named), call)
            due = self.shape(call(**named))
            # In any order, and by place as far as that is told.
            self.assertEqual(self.shape(call(**dict(reversed(list(named.items()))))), due)
            placed = [named[part.name] for part in parts if part.kind is part.POSITIONAL_OR_KEYWORD]
            others = {part.name: named[part.name] for part in parts if part.kind is part.KEYWORD_ONLY}
            self.assertEqual(self.shape(call(*placed, **others)), due)
            called.add(getattr(call, "__qualname__", "Checker.__call__"))
        words = {told.partition("(")[0] for things in LISTED.values() for told in things}
        words |= {path.partition(".")[2] + "." + told.partition("(")[0] for path, methods in METHODS.items() for told in methods}
        # What takes no arguments and changes something, with nothing to take back.
        self.assertEqual(words - called, {"Draft.undo"})

    def test_by_name_alone(self):
        program = Program("p", BLOCKS)
        for call, told in [(Wide, (1, 2, 4)), (Operation, (1, None, ())), (Program, ("p", BLOCKS, None)), (Wide.fresh, ("z", 2, 4)),
                           (Play, (program, ("p",), ((6,), (6, 0)), 2, 4)), (Function, ("p", BLOCKS, ())), (Group, ("f", {"f": Function("p", BLOCKS)}, {})),
                           (Run, (Group("f", {"f": Function("p", BLOCKS)}), [], 60)), (module("drafts").tried, (Draft(program), [], True))]:
            self.assertRaises(TypeError, call, *told)


if __name__ == "__main__":
    unittest.main()
