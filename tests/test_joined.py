"""Point [22]: joined flows."""

import random
import unittest

from signskept.bestbooks import BestBook
from signskept.books import Book, alone
from signskept.errors import BadFlow, BadFrequencies, BadGroup, BadMark, NotSimple
from signskept.functions import Function, Group
from signskept.joined import joined_sum
from signskept.spots import goes_of
from tests.groups import JoinedPaths, group_of, random_group
from tests.helpers import Agreeable, Angry, Case, odd_values
from tests.test_cuts import NO_MARKS, bad_frequencies

NO_GROUPS = ["f", {}, Group, Function] + odd_values()

# f hands b to g, and uses the answer; g calls itself, and returns what it came to, or what it got from there.
F = ("p", {"p": ((("do", "a", "load"), ("do", "c", "g", "b", "a")), ("q",)), "q": ((("do", None, "shr", "c"),), ())}, ("b",), None, {})
G = ("h", {"h": ((("do", "z", "xor", "x", "w"),), ("e", "k")), "k": ((("do", "z", "g", "z", "y"),), ()), "e": ((), ())},
     ("x", "y"), "z", {})


def group(g=G, **starts):
    return group_of({"entry": "f", "functions": {"f": F, "g": g}, "starts": starts})


def node(word, block, at, name):
    return (word, (block, "", at), name)


# From b at the beginning into g by x, and to z; from there into g once more; and from a variable of g to z.
INTO = (node("f", "p", 0, "b"), node("f", "p", 1, "b"), node("g", "h", 0, "x"), node("g", "h", 1, "z"))
AGAIN = (node("g", "k", 0, "z"), node("g", "h", 0, "x"), node("g", "h", 1, "z"))
WITHIN = (node("g", "h", 0, "w"), node("g", "h", 1, "z"))
# Out of g to f, where the answer is wanted; and out of g to g, and then to f.
WISH = (node("f", "q", 0, "c"),)
OUT = (node("g", "e", 0, "z"), node("f", "p", 2, "c")) + WISH
TWICE = (node("g", "e", 0, "z"), node("g", "k", 1, "z"), node("f", "p", 2, "c")) + WISH
FREE = {"f": {("", "p"): 9, ("p", "q"): 9}, "g": {("", "h"): 9, ("h", "e"): 9, ("h", "k"): 9}}


def cases(seed, count, **named):
    """Groups that are simple in a mark, with frequencies and the joined paths of a second reckoning."""
    chance = random.Random(seed)
    for index in range(count):
        mark = "zs"[index % 2]
        told = random_group(chance, mark, **named)
        one = group_of(told)
        often = {}
        for word in one.words:
            if chance.random() < 0.8:
                goes = goes_of(alone(one, word, Book(one)))
                often[word] = {go: chance.choice([0, 1, 2, 3, 4, 9, 20, 50, 1000000]) for go in goes if chance.random() < 0.8}
            elif chance.random() < 0.5:
                often[word] = None
        paths = JoinedPaths(told, mark, {word: goes for word, goes in often.items() if goes is not None})
        yield chance, told, one, mark, often, paths


def random_path(chance, paths, most=30):
    """A path by random steps, of those from which a row that wants something is come to; None if there is none."""
    leading = {}
    for one, behind in paths.onward.items():
        for other in behind:
            leading.setdefault(other, []).append(one)
    fine, waiting = set(paths.wishes), list(paths.wishes)
    while waiting:
        more = [one for one in leading.get(waiting.pop(), []) if one not in fine]
        fine.update(more)
        waiting.extend(more)
    begins = sorted(fine & set(paths.begins))
    if not begins:
        return None
    found = [chance.choice(begins)]
    while len(found) < most and (found[-1] not in paths.wishes or chance.random() < 0.7):
        further = sorted(fine & set(paths.onward.get(found[-1], {})))
        if not further:
            break
        # Into another function, and out of it, if there is such a step.
        others = [one for one in further if one[0] != found[-1][0]]
        found.append(chance.choice(others or further))
    while found and found[-1] not in paths.wishes:
        found.pop()
    return tuple(found) or None


class Sums(Case):
    def test_paths_of_each_kind(self):
        # Whoever returns may come back behind any call: also behind one by which no path came in.
        for path in (INTO + OUT, INTO + TWICE, INTO + AGAIN + OUT, INTO + AGAIN + TWICE, WITHIN + OUT, WITHIN + TWICE, WITHIN + AGAIN + OUT):
            self.assertEqual(joined_sum(group=group(), mark="z", flow=[(2, path)], frequencies=FREE), 2)
            # The marks of the entry at the beginning are not lost; those of w in g are.
            if path[0][0] == "g":
                self.assertEqual(joined_sum(group(b="z"), "z", [(2, path)], FREE), 2)
            else:
                self.refused(BadFlow, flow := [(2, path)], joined_sum, group(b="z"), "z", flow, FREE)
                self.assertEqual(joined_sum(group(b="s"), "z", [(2, path)], FREE), 2)
        self.assertEqual([joined_sum(group(), "z", [(1, INTO + OUT)]), BestBook(group(), "z").cost], [1, 1])

    def test_paths_of_no_kind(self):
        second = (node("f", "p", 1, "a"), node("g", "h", 0, "y"), node("g", "h", 1, "y"), node("g", "k", 0, "y"), node("g", "h", 0, "y"))
        for path in [INTO, INTO + OUT[:-1], INTO + OUT + OUT[-1:], second, second[:2],
                     # No path begins behind a call, or where a caller fills a parameter.
                     OUT[1:], WISH, TWICE[1:], INTO[2:] + OUT, INTO[2:3] + OUT[1:],
                     # Ahead of the call z is an operand, behind it the answer: no path stays with it there.
                     WITHIN + AGAIN[:1] + TWICE[1:],
                     # A row of return returns its variable alone, and nothing else leads out of a function.
                     (node("g", "h", 0, "w"), node("g", "h", 1, "w"), node("g", "e", 0, "w"), node("f", "p", 2, "c")) + WISH,
                     WITHIN + OUT[1:], WITHIN + (node("g", "e", 0, "z"), node("g", "e", 1, "z"), node("f", "p", 2, "c")) + WISH,
                     WITHIN + (node("g", "e", 0, "z"), node("f", "p", 1, "c"), node("f", "p", 2, "c")) + WISH,
                     # Into a function a path comes at its first point, by the parameter at the place of the operand.
                     INTO[:2] + (node("g", "h", 0, "y"),) + INTO[3:] + OUT, INTO[:2] + (node("g", "h", 0, "w"),) + INTO[3:] + OUT,
                     INTO[:2] + INTO[3:] + OUT, INTO[:1] + INTO[2:] + OUT]:
            self.refused(BadFlow, flow := [(1, path)], joined_sum, group(), "z", flow, FREE)

    def test_a_path_past_a_call_and_a_return(self):
        # What a call does not change stays unsure behind it, and so does what is returned.
        rows = (("do", None, "g", "b", "b"), ("do", "a", "g", "a", "a"), ("do", None, "shr", "b"))
        one = group_of({"entry": "f", "functions": {"f": ("p", {"p": (rows, ())}, ("b",), "b", {}), "g": G}, "starts": {}})
        path = tuple(node("f", "p", at, "b") for at in range(3))
        self.assertEqual(joined_sum(one, "z", [(1, path)]), 1)
        self.refused(BadFlow, flow := [(1, path + (node("f", "p", 3, "b"),))], joined_sum, one, "z", flow)

    def test_what_is_passed(self):
        # The beginning of g is passed by each coming into it, also from within.
        again = INTO + AGAIN + TWICE
        for path, word, go, least in [
                (INTO + OUT, "f", ("", "p"), 2), (INTO + OUT, "f", ("p", "q"), 2), (INTO + OUT, "g", ("", "h"), 2),
                (INTO + OUT, "g", ("h", "e"), 2), (INTO + OUT, "g", ("h", "k"), 0), (WITHIN + OUT, "g", ("", "h"), 2),
                (again, "g", ("", "h"), 4), (again, "g", ("h", "k"), 2), (again, "g", ("h", "e"), 2), (again, "f", ("", "p"), 2)]:
            often = {**FREE, word: {**FREE[word], go: least}}
            self.assertEqual(joined_sum(group(), "z", [(2, path)], often), 2)
            if least:
                often = {**FREE, word: {**FREE[word], go: least - 1}}
                self.refused(BadFlow, flow := [(2, path)], joined_sum, group(), "z", flow, often)
        # Each spot for its function and variable: x and w are two, z is one.
        self.assertEqual(joined_sum(group(), "z", [(4, INTO + OUT), (5, WITHIN + OUT)], FREE), 9)
        self.refused(BadFlow, flow := [(5, INTO + OUT), (5, WITHIN + OUT)], joined_sum, group(), "z", flow, FREE)

    def test_a_ring_that_nothing_unsure_comes_out_of(self):
        # The one return stands behind the call: nothing was ever returned that is unsure.
        one = group(("h", {"h": G[1]["h"][:1] + (("h", "k"),), "k": G[1]["k"]}, ("x", "y"), "z", {}))
        back = (node("g", "k", 1, "z"), node("f", "p", 2, "c")) + WISH
        for path in (back, back[1:], WITHIN + AGAIN[:1] + back, INTO + back):
            self.refused(BadFlow, flow := [(1, path)], joined_sum, one, "z", flow)
        self.assertEqual(BestBook(one, "z").cost, 0)

    def test_a_function_that_calls_itself_at_once(self):
        # The first point is ahead of the call: from it the path comes to the same point, by the beginning.
        f = Function("p", {"p": ((("do", None, "f", "a"), ("do", None, "shr", "a")), ())}, parameters=("a",))
        one = Group("f", {"f": f})
        here, behind = node("f", "p", 0, "a"), node("f", "p", 1, "a")
        often = {"f": {("", "p"): 6}}
        for many in (1, 2, 3):
            path = (here,) * many + (behind,)
            self.assertEqual(joined_sum(one, "z", [(6 // many, path)], often), 6 // many)
            self.refused(BadFlow, flow := [(6 // many + 1, path)], joined_sum, one, "z", flow, often)

    def test_one_operand_for_two_parameters(self):
        g = Function("p", {"p": ((("do", None, "shr", "y"),), ())}, parameters=("x", "y"))
        f = Function("p", {"p": ((("do", None, "g", "a", "a"),), ())}, parameters=("a",))
        one = Group("f", {"f": f, "g": g})
        self.assertEqual(joined_sum(one, "z", [(1, (node("f", "p", 0, "a"), node("g", "p", 0, "y")))]), 1)
        self.refused(BadFlow, flow := [(1, (node("f", "p", 0, "a"), node("g", "p", 0, "x")))], joined_sum, one, "z", flow)

    def test_blocks_that_no_road_comes_to(self):
        # A call, and a return, in such a block join nothing.
        g = Function("p", {"p": ((), ("p",)), "q": ((), ())}, parameters=("x",), answer="x")
        rows = (("do", "b", "g", "a"), ("do", None, "shr", "b"))
        f = Function("p", {"p": (rows, ()), "q": ((("do", "b", "h", "a"), ("do", None, "shr", "b")), ())}, parameters=("a",))
        h = Function("p", {"p": ((("do", None, "shr", "x"),), ())}, parameters=("x",), answer="x")
        one = Group("f", {"f": f, "g": g, "h": h})
        for path in [(node("f", "p", 0, "a"), node("g", "p", 0, "x"), node("f", "p", 1, "b")), (node("f", "q", 0, "a"), node("h", "p", 0, "x")),
                     (node("f", "p", 1, "b"),), (node("h", "p", 0, "x"),), (node("f", "p", 0, "a"), node("h", "p", 0, "x"))]:
            self.refused(BadFlow, flow := [(1, path)], joined_sum, one, "z", flow)
        self.assertEqual([joined_sum(one, "z", []), BestBook(one, "z").cost], [0, 0])

    def test_beside_another_reckoning(self):
        kinds = {True: 0, False: 0}
        calls = 0
        for chance, told, one, mark, often, paths in cases(220, 200, most_rows=6, many_blocks=3):
            for _ in range(10):
                flow = [(chance.randint(1, 3), random_path(chance, paths)) for _ in range(chance.randint(1, 3))]
                flow = [(amount, path) for amount, path in flow if path]
                if flow and chance.random() < 0.3:
                    amount, path = flow[-1]
                    at = chance.randrange(len(path))
                    others = sorted(paths.onward) or [path[0]]
                    flow[-1] = (amount, path[:at] + (chance.choice(others),) + path[at + 1:])
                total = paths.total(flow)
                kinds[total is not None] += len(flow) > 0
                calls += total is not None and any(one[0] != other[0] for _, path in flow for one, other in zip(path, path[1:]))
                if total is None:
                    self.refused(BadFlow, flow, joined_sum, one, mark, flow, often)
                else:
                    self.assertEqual(joined_sum(one, mark, tuple(flow), often), total)
        self.assertGreater(min(kinds.values()), 60)
        self.assertGreater(calls, 20)

    def test_the_flow_of_a_best_book(self):
        many = 0
        for chance, told, one, mark, often, paths in cases(221, 150):
            best = BestBook(one, mark, often)
            self.assertEqual([joined_sum(one, mark, best.flow, often), paths.total(best.flow)], [best.cost] * 2)
            self.assertEqual(joined_sum(one, mark, tuple(best.flow), often), best.cost)
            many += best.cost > 0
        self.assertGreater(many, 25)


class Bent(Case):
    def test_flows_bent_in_one_thing(self):
        one, path, short, often = group(), INTO + OUT, WITHIN + OUT, FREE
        self.assertEqual(joined_sum(one, "z", [(3, path), (2, short)], often), 5)
        bent = [path[:at] + path[at + 1:] for at in range(len(path))]
        bent += [path[:at] + path[at:at + 1] + path[at:] for at in range(len(path))]
        bent += [path[:at] + (path[at + 1], path[at]) + path[at + 2:] for at in range(len(path) - 1)]
        bent += [path[::-1], list(path), (), None, path[0], tuple(part[1:] for part in path), path + path]
        for at in range(len(path)):
            word, (block, _, index), name = path[at]
            others = [("g" if word == "f" else "f", (block, "", index), name), (word, (block, "", index + 1), name), (word, (block, "", index), "y"),
                      (word, (block, "", index), None), ((block, "", index), name), (word, (block, "", index)), (word, (block, "", index), name, name),
                      [word, (block, "", index), name], (word, [block, "", index], name), (None, (block, "", index), name),
                      (word, (block, "", float(index)), name), (word, (block, "q", index), name), (word, ("t", "", index), name), ("", (block, "", index), name),
                      ((block, "", index), word, name), (Agreeable(), (block, "", index), name), (word, Agreeable(), name),
                      (word, (block, "", index), Angry()), Angry(), None]
            if index < 2:
                others.append((word, (block, "", bool(index)), name))
            bent += [path[:at] + (other,) + path[at + 1:] for other in others]
        for other in bent:
            self.refused(BadFlow, flow := [(2, short), (3, other)], joined_sum, one, "z", flow, often)
        for bad in [0, -1, True, None, 1.0, "1", Agreeable(), 10]:
            self.refused(BadFlow, flow := [(bad, path)], joined_sum, one, "z", flow, often)
        for bad in [(1,), (1, path, 1), [1, path], path, None, Agreeable(), Angry()]:
            self.refused(BadFlow, flow := [bad], joined_sum, one, "z", flow, often)
        for bad in [{(1, path): 1}, "", (1, path), iter([])] + odd_values():
            if repr(bad) not in ("[]", "()"):
                self.refused(BadFlow, bad, joined_sum, one, "z", bad, often)
        self.refused(BadFlow, flow := [(8, path), (2, path)], joined_sum, one, "z", flow, often)

    def test_what_is_refused_in_the_told_order(self):
        bent = Group("f", {"f": Function("p", {"p": ((("do", "a", "load"),), ("p",)), "q": ((), ("p",))}),
                           "g": Function("p", {"p": ((("do", "a", "and", "a", "b"),), ())}),
                           "h": Function("p", {"p": ((("widen", "s", "a"), ("do", "a", "and", "a", "b")), ())})})
        for bad in NO_GROUPS:
            self.refused(BadGroup, bad, joined_sum, bad, None, None, 1)
        for bad in NO_MARKS:
            self.refused(BadMark, bad, joined_sum, bent, bad, None, 1)
        for bad in [{"k": None}, {"f": 1}, {"f": {("p", "q"): 1}}, {None: None}, {0: {}}, [], (), 0, False, "", "f", {"f": []},
                    {"g": {("", "p"): 1}, "f": {("p", "p"): True}}, {Agreeable(): {}}, {("f",): {}}, Angry()] + odd_values():
            if bad is not None and repr(bad) != "{}":
                self.refused(BadFrequencies, bad, joined_sum, bent, "z", None, bad)
        for bad in bad_frequencies(("p", "p")):
            self.refused(BadFrequencies, given := {"g": None, "f": bad}, joined_sum, bent, "z", None, given)
        for mark, word in [("z", "g"), ("s", None)]:
            if word is None:
                self.refused(BadFlow, None, joined_sum, bent, mark, None)
                continue
            with self.assertRaises(NotSimple) as caught:
                joined_sum(bent, mark, None)
            self.assertEqual(caught.exception.value, word)
        self.refused(BadFlow, None, joined_sum, bent, "s", None, {"f": {("p", "p"): 0, ("", "p"): 1000000}, "h": {}, "g": None})


if __name__ == "__main__":
    unittest.main()
