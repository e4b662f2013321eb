"""Point [17]: what puts cost, flows, and the cheapest puts."""

import itertools
import random
import unittest

from signskept.cuts import Cheapest, cost_of, flow_sum
from signskept.errors import BadFlow, BadFrequencies, BadMark, BadProgram, BadPuts, NotSimple
from signskept.operations import Operation
from signskept.programs import Program
from signskept.puts import placed, serves
from signskept.spots import goes_of, spots
from signskept.tables import is_right
from signskept.wants import gift, wanted
from tests.groups import Paths, known_needs, operations_of
from tests.helpers import Agreeable, Angry, Case, odd_values
from tests.plain import random_fit_program, random_fit_table, with_table

LOAD, SHR = ("do", "a", "load"), ("do", None, "shr", "a")
# Into q and t several goes come; r is on no road.
RING = {"p": ((LOAD, SHR), ("q", "p")), "q": ((("do", "b", "xor", "b", "a"), SHR), ("p", "t")),
        "t": ((("do", "b", "xor", "a", "b"), ("do", None, "udiv", "b", "b")), ("q",)), "r": ((SHR,), ("p",))}
OFTEN = {("", "p"): 2, ("p", "q"): 3, ("p", "p"): 5, ("q", "p"): 7, ("q", "t"): 11, ("t", "q"): 13}
NO_PROGRAMS = ["p", RING, Program] + odd_values()
NO_MARKS = ["", "zs", "a"] + odd_values()


def ring(starts=None):
    return Program("p", RING, starts=starts)


def bad_frequencies(go):
    """Values that are no frequencies, if this is a go and ("q", "p") none of the program."""
    wrong_goes = [("q", "p"), ("", "q"), go + (0,), go[:1], go[1], ("", ""), (go[1], ""), None, True, 0, (None, "p"), Agreeable()]
    wrong_numbers = [-1, 1000001, 10 ** 30, True, False, None, 1.0, "1", (1,), Agreeable(), Angry()]
    found = [{bad: 1} for bad in wrong_goes] + [{go: bad} for bad in wrong_numbers] + [{go: 1, ("q", "p"): 1}]
    return found + [bad for bad in odd_values() + [[], [go], (go, 1), "", 1] if bad is not None and repr(bad) != "{}"]


def cases(seed, many, **named):
    """Programs that are simple in a mark, with frequencies and the Paths of a second reckoning."""
    chance = random.Random(seed)
    for index in range(many):
        mark = "zs"[index % 2]
        told = random_fit_table(chance, mark)
        first, blocks, starts = random_fit_program(chance, mark, told, **named)
        program = Program(first, blocks, starts=starts, table=operations_of(told))
        often = {go: chance.choice([0, 1, 2, 3, 4, 9, 1000000]) for go in goes_of(program) if chance.random() < 0.6}

        def needs(word, told=told):
            return told[word][1] if word in told else known_needs(word)
        yield chance, program, mark, often, Paths(first, blocks, starts, mark, with_table(told), needs, often)


def least_cost(paths, most=13):
    """The cost of the cheapest puts that pass all paths, by trying all of them; None if there are too many."""
    passed = [frozenset(spots) for _, spots in paths.simple_paths()]
    passed = [some for some in passed if not any(other < some for other in passed)]
    used = sorted(set().union(*passed))
    if len(used) > most:
        return None
    best = None
    for chosen in itertools.product([False, True], repeat=len(used)):
        taken = {spot for spot, wanted in zip(used, chosen) if wanted}
        cost = sum(paths.cost(spot) for spot in taken)
        if (best is None or cost < best) and all(taken & some for some in passed):
            best = cost
    return best


class Costs(Case):
    def test_each_kind_of_spot(self):
        due = {("", "p", 0): 2, ("p", "q", 0): 3, ("p", "p", 0): 5, ("q", "p", 0): 7, ("q", "t", 0): 11, ("t", "q", 0): 13,
               ("p", "", 0): 14, ("p", "", 1): 14, ("p", "", 2): 14, ("q", "", 0): 16, ("q", "", 1): 16, ("q", "", 2): 16,
               ("t", "", 0): 11, ("t", "", 1): 11, ("t", "", 2): 11}
        self.assertEqual(sorted(due), spots(ring()))
        for spot in due:
            self.assertEqual(cost_of(ring(), [(spot, "a")], OFTEN), due[spot])
            self.assertEqual(cost_of(program=ring(), puts=((spot, "b"), (spot, "a")), frequencies=OFTEN), 2 * due[spot])
        self.assertEqual(cost_of(ring(), [(spot, name) for spot in due for name in "ab"], OFTEN), 2 * sum(due.values()))

    def test_goes_that_are_left_out(self):
        puts = [(("p", "", 1), "a"), (("q", "", 0), "b"), (("", "p", 0), "a"), (("q", "t", 0), "b")]
        self.assertEqual([cost_of(ring(), [put]) for put in puts], [3, 2, 1, 1])
        for often in (None, {}):
            self.assertEqual(cost_of(ring(), puts, often), 7)
        self.assertEqual(cost_of(ring(), puts, {("p", "p"): 4}), 10)
        self.assertEqual(cost_of(ring(), puts, {("", "p"): 0, ("q", "t"): 0}), 4)
        self.assertEqual(cost_of(ring(), puts[:1], {("", "p"): 1000000, ("q", "p"): 1000000, ("p", "p"): 1000000}), 3000000)
        self.assertEqual(cost_of(ring(), puts[:1], {go: 0 for go in OFTEN}), 0)
        self.assertEqual([cost_of(ring(), []), cost_of(ring(), (), OFTEN)], [0, 0])

    def test_one_block(self):
        program = Program("p", {"p": ((), ())}, starts={"a": ""})
        self.assertEqual(cost_of(program, [(("p", "", 0), "a"), (("", "p", 0), "a")], {("", "p"): 6}), 12)

    def test_beside_another_reckoning(self):
        for chance, program, mark, often, paths in cases(170, 60):
            for spot in spots(program):
                if program.variables:
                    self.assertEqual(cost_of(program, [(spot, program.variables[0])], often), paths.costs[spot])

    def test_frequencies_are_not_kept_or_changed(self):
        often = dict(OFTEN)
        cost_of(ring(), [(("p", "", 1), "a")], often)
        self.assertEqual(often, OFTEN)

    def test_what_is_refused_in_the_told_order(self):
        for bad in NO_PROGRAMS:
            self.refused(BadProgram, bad, cost_of, bad, None, 1)
        for bad in [[("p", "", 1)], [(("r", "", 0), "a")], [(("p", "", 1), "c")], [(("p", "", 1), "a")] * 2, "", None]:
            self.refused(BadPuts, bad, cost_of, ring(), bad, 1)
        program = Program("p", {"p": ((), ("p",)), "q": ((), ("p",))}, starts={"a": ""})
        for bad in bad_frequencies(("p", "p")):
            self.refused(BadFrequencies, bad, cost_of, program, [], bad)

    def test_goes_that_only_say_that_they_are_some(self):
        # The hash of these is that of "z".
        program = Program("z", {"z": ((), ("z",))}, starts={"a": ""})
        self.assertEqual(cost_of(program, [(("z", "z", 0), "a")], {("z", "z"): 4}), 4)
        for bad in [(Agreeable(), "z"), ("z", Agreeable()), (Agreeable(), Agreeable()), Agreeable()]:
            self.refused(BadFrequencies, often := {bad: 4}, cost_of, program, [], often)

    def test_programs_that_are_not_simple(self):
        program = Program("p", {"p": ((("widen", "s", "a"), ("widen", "z", "a")), ())})
        self.assertEqual(cost_of(program, [(("p", "", 1), "a")]), 1)


class Flows(Case):
    SHORT = ((("p", "", 1), "a"),)
    MIXED = ((("p", "", 1), "a"), (("p", "", 2), "a"), (("q", "", 0), "a"), (("q", "", 1), "b"), (("q", "", 2), "b"),
             (("t", "", 0), "b"), (("t", "", 1), "b"))

    def test_right_flows(self):
        program = ring()
        self.assertEqual(flow_sum(program, "z", [], OFTEN), 0)
        self.assertEqual(flow_sum(program=program, mark="z", flow=(), frequencies=None), 0)
        self.assertEqual(flow_sum(program, "z", [(14, self.SHORT)], OFTEN), 14)
        self.assertEqual(flow_sum(program, "z", ((3, self.MIXED), (11, self.SHORT)), OFTEN), 14)
        self.assertEqual(flow_sum(program, "z", [(1, self.MIXED), (2, self.MIXED), (4, self.SHORT)], OFTEN), 7)
        self.assertEqual(flow_sum(program, "z", [(1, self.MIXED), (1, self.SHORT)]), 2)

    def test_more_than_a_spot_costs(self):
        program = ring()
        for flow, often in [([(15, self.SHORT)], OFTEN), ([(4, self.SHORT)], None), ([(3, self.MIXED), (12, self.SHORT)], OFTEN),
                            ([(4, self.MIXED)], OFTEN), ([(3, self.MIXED), (1, self.MIXED)], OFTEN), ([(2, self.MIXED)], None),
                            ([(1, self.SHORT)] * 4, None), ([(1, self.MIXED)], {("q", "t"): 0}), ([(1, self.MIXED)], {("p", "q"): 0})]:
            self.refused(BadFlow, flow, flow_sum, program, "z", flow, often)
        self.assertEqual(flow_sum(program, "z", [(1, self.SHORT)] * 3), 3)

    def test_the_spot_of_the_beginning_is_passed(self):
        program = Program("p", {"p": ((SHR,), ("p",))})
        path = ((("p", "", 0), "a"),)
        self.assertEqual(flow_sum(program, "z", [(5, path)], {("", "p"): 5, ("p", "p"): 9}), 5)
        self.refused(BadFlow, flow := [(6, path)], flow_sum, program, "z", flow, {("", "p"): 5, ("p", "p"): 9})
        # Coming to the same point by the other go, it passes both goes, and the point twice.
        again = ((("p", "", 0), "a"), (("p", "", 1), "a"), (("p", "", 0), "a"))
        self.assertEqual(flow_sum(program, "z", [(5, again)], {("", "p"): 5, ("p", "p"): 5}), 5)
        self.refused(BadFlow, flow := [(5, again)], flow_sum, program, "z", flow, {("", "p"): 5, ("p", "p"): 4})
        program = Program("p", {"p": ((LOAD, SHR), ())})
        self.assertEqual(flow_sum(program, "z", [(5, self.SHORT)], {("", "p"): 5}), 5)

    def test_a_path_that_passes_a_spot_twice(self):
        program = Program("p", {"p": ((), ("p", "q")), "q": ((("do", None, "shr", "b"),), ())})
        path = ((("p", "", 0), "b"),) * 3 + ((("q", "", 0), "b"),)
        often = {("", "p"): 4, ("p", "p"): 8, ("p", "q"): 4}
        self.assertEqual(flow_sum(program, "z", [(4, path)], often), 4)
        # The point of p is passed three times, and the go from p to p twice.
        self.refused(BadFlow, flow := [(4, path)], flow_sum, program, "z", flow, {**often, ("p", "p"): 7})
        self.refused(BadFlow, flow := [(3, path)], flow_sum, program, "z", flow, {**often, ("", "p"): 3, ("p", "p"): 5})
        self.assertEqual(flow_sum(program, "z", [(2, path)], {**often, ("", "p"): 2, ("p", "p"): 4}), 2)

    def test_paths_bent_in_one_thing(self):
        program = ring()
        path = self.MIXED
        good = [(2, path), (1, self.SHORT)]
        self.assertEqual(flow_sum(program, "z", good, OFTEN), 3)
        bent = [path[:at] + path[at + 1:] for at in range(1, len(path) - 1)]
        bent += [path[:at] + path[at:at + 1] + path[at:] for at in range(len(path))]
        bent += [path[:at] + (path[at + 1], path[at]) + path[at + 2:] for at in range(len(path) - 1)]
        bent += [path[1:], path[:-1], path[::-1], path[2:], path[:4], list(path), (), None, path[0]]
        for at in range(len(path)):
            (word, _, index), name = path[at]
            others = [((word, "", index + 1), name), ((word, "", index - 1), name), (("r", "", 0), name), ((word, "", 9), name),
                      ((word, "", index), "ab"[name == "a"]), ((word, "", index), "c"), ((word, "", index), None), (word, name),
                      ((word, "", index),), ((word, "", index), name, name), [(word, "", index), name], ([word, "", index], name),
                      ((word, "q", index), name), ((word, "", float(index)), name), ((word, "", index, 0), name), ((word, index), name),
                      (name, (word, "", index)), ((word, None, index), name), (Agreeable(), name), ((word, "", index), Agreeable()),
                      ((word, "", Agreeable()), name), Angry(), ((Angry(), "", index), name), None]
            if index < 2:
                others.append(((word, "", bool(index)), name))
            bent += [path[:at] + (other,) + path[at + 1:] for other in others]
        for other in bent:
            flow = [(1, self.SHORT), (2, other)]
            self.refused(BadFlow, flow, flow_sum, program, "z", flow, OFTEN)

    def test_amounts_and_forms(self):
        program = ring()
        for bad in [0, -1, True, False, None, 1.0, "1", Agreeable(), Angry(), (1,)]:
            self.refused(BadFlow, flow := [(bad, self.SHORT)], flow_sum, program, "z", flow, OFTEN)
        for bad in [(1,), (1, self.SHORT, 1), [1, self.SHORT], (self.SHORT, 1), self.SHORT, None, 1, Agreeable(), Angry()]:
            self.refused(BadFlow, flow := [(1, self.SHORT), bad], flow_sum, program, "z", flow, OFTEN)
        for bad in [{(1, self.SHORT): 1}, {(1, self.SHORT)}, iter([]), "", (1, self.SHORT)] + odd_values():
            if repr(bad) not in ("[]", "()"):
                self.refused(BadFlow, bad, flow_sum, program, "z", bad, OFTEN)
        huge = 10 ** 39
        self.refused(BadFlow, flow := [(huge, self.SHORT)], flow_sum, program, "z", flow, OFTEN)

    def test_rows_that_change_or_make(self):
        # Behind the widening, and behind what always gives the mark, no path goes on.
        rows = (LOAD, ("widen", "z", "a"), SHR, ("move", "b", "a"), ("do", "a", "one"), SHR)
        program = Program("p", {"p": (rows, ())}, starts={"b": "z", "a": "z"})
        chain = tuple((("p", "", at), "a") for at in range(1, 6))
        for path in [chain[:2], chain, chain[1:2], chain[4:], ((("p", "", 0), "a"), chain[0]), ((("p", "", 4), "b"),)]:
            self.refused(BadFlow, flow := [(1, path)], flow_sum, program, "z", flow)
        # By xor either operand hands on what it lacks, and the answer itself, as it was, does not.
        rows = (("do", "a", "xor", "b", "c"), SHR)
        program = Program("p", {"p": (rows, ())})
        for name in "bc":
            self.assertEqual(flow_sum(program, "z", [(1, ((("p", "", 0), name), (("p", "", 1), "a")))]), 1)
        self.refused(BadFlow, flow := [(1, ((("p", "", 0), "a"), (("p", "", 1), "a")))], flow_sum, program, "z", flow)
        rows = (("do", "a", "xor", "a", "c"), SHR)
        program = Program("p", {"p": (rows, ())}, starts={"c": "z"})
        self.assertEqual(flow_sum(program, "z", [(1, ((("p", "", 0), "a"), (("p", "", 1), "a")))]), 1)

    def test_blocks_that_no_road_comes_to(self):
        program = Program("p", {"p": ((), ()), "q": ((LOAD, SHR), ("p",)), "r": ((), ("q",))})
        for path in [((("q", "", 1), "a"),), ((("q", "", 0), "a"),)]:
            self.refused(BadFlow, flow := [(1, path)], flow_sum, program, "z", flow)

    def test_beside_another_reckoning(self):
        kinds = {True: 0, False: 0}
        for chance, program, mark, often, paths in cases(171, 120, many_blocks=3, many_names=2, most_rows=3):
            found = [path for path, _ in paths.simple_paths()][:40]
            for _ in range(12):
                flow = [(chance.randint(1, 4), chance.choice(found)) for _ in range(chance.randint(1, 4)) if found]
                if flow and chance.random() < 0.4:
                    amount, path = flow[-1]
                    at = chance.randrange(len(path))
                    flow[-1] = (amount, path[:at] + (chance.choice(chance.choice(found)),) + path[at + 1:])
                total = paths.total(flow)
                kinds[total is not None] += len(flow) > 0
                if total is None:
                    self.refused(BadFlow, flow, flow_sum, program, mark, flow, often)
                else:
                    self.assertEqual(flow_sum(program, mark, flow, often), total)
        self.assertGreater(min(kinds.values()), 60)

    def test_what_is_refused_in_the_told_order(self):
        bent = Program("p", {"p": ((("do", None, "store", "a", "a"), ("do", "a", "and", "a", "b"), ("widen", "s", "a")), ("p",))})
        for bad in NO_PROGRAMS:
            self.refused(BadProgram, bad, flow_sum, bad, None, None, 1)
        for bad in NO_MARKS:
            self.refused(BadMark, bad, flow_sum, bent, bad, None, 1)
        program = Program("p", {"p": ((), ("p",)), "q": ((("do", "a", "and", "a", "b"),), ("p",))})
        for bad in bad_frequencies(("p", "p")):
            self.refused(BadFrequencies, bad, flow_sum, program, "z", None, bad)
        with self.assertRaises(NotSimple) as caught:
            flow_sum(bent, "z", None)
        self.assertEqual(caught.exception.value, ("p", 1))
        self.refused(BadFlow, None, flow_sum, bent.without([("p", 1), ("p", 2)]), "z", None)


class Cheap(Case):
    def check(self, program, mark, often, paths=None):
        """What is told serves, and costs what a flow shows; that is returned."""
        cheapest = Cheapest(program, mark, often)
        self.assertEqual(cheapest.puts, sorted(set(cheapest.puts)))
        self.assertIs(serves(program, mark, cheapest.puts), True)
        self.assertEqual(cost_of(program, cheapest.puts, often), cheapest.cost)
        self.assertEqual(flow_sum(program, mark, cheapest.flow, often), cheapest.cost)
        self.assertIsInstance(cheapest.flow, list)
        self.assertEqual(len({path for _, path in cheapest.flow}), len(cheapest.flow))
        if paths is not None:
            self.assertEqual(paths.total(cheapest.flow), cheapest.cost)
        return cheapest

    def test_beside_all_placings(self):
        tried, many = 0, {"free": 0, "dear": 0}
        for chance, program, mark, often, paths in cases(172, 500, many_blocks=3, many_names=2, most_rows=3):
            cheapest = self.check(program, mark, often, paths)
            due = least_cost(paths)
            if due is not None:
                self.assertEqual(cheapest.cost, due)
                tried += len(cheapest.puts) > 1
                many["dear" if due else "free"] += 1
        self.assertGreater(tried, 20)
        self.assertGreater(min(many.values()), 60)

    def test_beside_all_sets_of_puts(self):
        # The same with serves alone, for programs that have few spots.
        many = 0
        for chance, program, mark, often, paths in cases(173, 400, many_blocks=2, many_names=1, most_rows=2):
            all_puts = [(spot, name) for spot in spots(program) for name in program.variables]
            if len(all_puts) > 7:
                continue
            costs = [cost_of(program, puts, often) for size in range(len(all_puts) + 1)
                     for puts in itertools.combinations(all_puts, size) if serves(program, mark, puts)]
            cheapest = self.check(program, mark, often, paths)
            self.assertEqual(cheapest.cost, min(costs))
            many += cheapest.cost > 0
        self.assertGreater(many, 12)

    def test_larger_programs(self):
        for chance, program, mark, often, paths in cases(174, 40, many_blocks=6, many_names=5, most_rows=8):
            self.check(program, mark, often)
            self.check(program, mark, None)

    def test_placed_it_is_right(self):
        for chance, program, mark, often, paths in cases(175, 60, many_blocks=3, many_names=3):
            self.assertIs(is_right(placed(program, mark, Cheapest(program, mark, often).puts)), True)

    def test_by_hand(self):
        cheapest = self.check(ring(), "z", OFTEN)
        # Once behind the load, and b at the cheapest of all that it passes.
        self.assertEqual(cheapest.cost, 16)
        self.assertEqual(cheapest.puts, [(("", "p", 0), "b"), (("p", "", 1), "a")])
        self.assertEqual(self.check(ring({"b": "z"}), "z", OFTEN).puts, [(("p", "", 1), "a")])
        # Where the load is done often, it is cheaper behind it.
        blocks = {"p": ((LOAD,), ("p", "q")), "q": ((SHR,), ())}
        program = Program("p", blocks)
        often = {("p", "p"): 100, ("p", "q"): 7}
        self.assertEqual([Cheapest(program, "z", often).cost, Cheapest(program, "z").cost], [7, 1])
        self.assertEqual(Cheapest(program, "z", {("p", "p"): 0, ("p", "q"): 9, ("", "p"): 2}).puts, [(("p", "", 1), "a")])

    def test_argument_names(self):
        first = Cheapest(program=ring(), mark="z", frequencies=OFTEN)
        self.assertEqual(first.cost, 16)

    def test_frequencies_of_nothing_and_of_a_million(self):
        self.assertEqual(self.check(ring(), "z", {go: 0 for go in OFTEN}).cost, 0)
        nothing = Cheapest(ring(), "z", {go: 0 for go in OFTEN})
        self.assertEqual([nothing.flow, serves(ring(), "z", nothing.puts), serves(ring(), "z", [])], [[], True, False])
        self.assertEqual(self.check(ring(), "z", {go: 1000000 for go in OFTEN}).cost, 4000000)
        self.assertEqual(self.check(ring(), "z", {**{go: 1000000 for go in OFTEN}, ("", "p"): 0}).cost, 2000000)

    def test_nineteen_blocks_that_spoil(self):
        # A tree: each block but the last one spoils, nine go on to two others, ten to the last one.
        words = ["b" + letter for letter in "abcdefghijklmnopqrst"]
        for each in (1, 1000000):
            blocks, often = {}, {("", "ba"): each}
            for at, word in enumerate(words[:19]):
                goes = (words[-1],) if at == 18 else (words[at + 1], words[-1])
                blocks[word] = ((LOAD,), goes)
                often.update({(word, target): each for target in goes})
            blocks[words[-1]] = ((SHR,), ())
            program = Program("ba", blocks)
            cheapest = self.check(program, "z", often)
            self.assertEqual(cheapest.cost, 19 * each)
            self.assertEqual(len(cheapest.flow), 19)
        # In one block they meet: there one put is enough, if fewer go on than come.
        blocks[words[-1]] = ((), ("bu",))
        blocks["bu"] = ((SHR,), ())
        del blocks["bs"]
        blocks["br"] = ((LOAD,), (words[-1],))
        often = {go: 1000000 for go in goes_of(Program("ba", blocks))}
        often["bt", "bu"] = 5
        self.assertEqual(self.check(Program("ba", blocks), "z", often).puts, [(("bt", "bu", 0), "a")])
        self.assertEqual(Cheapest(Program("ba", blocks), "z", often).cost, 5)

    def test_twenty_blocks_and_sixty_rows(self):
        chance = random.Random(176)
        words, names = "abcdefghijklmnopqrst", ["v" + letter for letter in "abcdefghijkl"]
        for _ in range(6):
            blocks = {}
            for word in words:
                rows = [("do", chance.choice(names), "xor", chance.choice(names), chance.choice(names)),
                        chance.choice([("do", chance.choice(names), "load"), ("move", chance.choice(names), chance.choice(names))]),
                        ("do", None, "udiv", chance.choice(names), chance.choice(names))]
                blocks[word] = (tuple(rows), tuple(chance.sample(words, 2)))
            program = Program("a", blocks)
            self.check(program, "z", {go: chance.randint(0, 1000000) for go in goes_of(program)})

    def test_programs_that_want_nothing(self):
        for program in (Program("p", {"p": ((), ())}), Program("p", {"p": ((LOAD, ("move", "b", "a")), ("p",))}),
                        Program("p", {"p": ((), ()), "q": ((SHR,), ())}), Program("p", {"p": ((SHR,), ())}, starts={"a": "z"})):
            cheapest = Cheapest(program, "z")
            self.assertEqual([cheapest.puts, cheapest.cost, cheapest.flow], [[], 0, []])

    def test_what_is_told_may_be_changed(self):
        cheapest = Cheapest(ring(), "z", OFTEN)
        puts, flow = cheapest.puts, cheapest.flow
        cheapest.puts.clear()
        cheapest.flow.append(None)
        self.assertEqual([cheapest.puts, cheapest.flow], [puts, flow])
        self.assertIsNot(cheapest.puts, puts)
        again = Cheapest(ring(), "z", dict(OFTEN))
        self.assertEqual([again.puts, again.flow, again.cost], [puts, flow, cheapest.cost])
        for name in ("puts", "flow", "cost"):
            self.assertRaises(AttributeError, setattr, cheapest, name, [])

    def test_what_was_handed_in_may_be_changed(self):
        often = dict(OFTEN)
        cheapest = Cheapest(ring(), "z", often)
        self.assertEqual(often, OFTEN)
        often.clear()
        self.assertEqual(cheapest.cost, 16)

    def test_what_is_refused_in_the_told_order(self):
        bent = Program("p", {"p": ((("do", "a", "load"), ("do", "a", "and", "a", "b"), ("widen", "s", "a")), ("p",))})
        for bad in NO_PROGRAMS:
            self.refused(BadProgram, bad, Cheapest, bad, None, 1)
        for bad in NO_MARKS:
            self.refused(BadMark, bad, Cheapest, bent, bad, 1)
        program = Program("p", {"p": ((), ("p",)), "q": ((("do", "a", "and", "a", "b"),), ("p",))})
        for bad in bad_frequencies(("p", "p")):
            self.refused(BadFrequencies, bad, Cheapest, program, "z", bad)
        for mark, place in [("z", ("p", 1)), ("s", ("p", 1))]:
            one = bent if mark == "z" else bent.with_row(("p", 1), ("do", None, "shr", "a"))
            with self.assertRaises(NotSimple) as caught:
                Cheapest(one, mark)
            self.assertEqual(caught.exception.value, place)

    def test_rows_of_several_alternatives(self):
        # The first need without another mark is asked: here of b alone.
        table = {"pick": Operation(2, (("s", ""), ("", "z"), ("z", "")))}
        program = Program("p", {"p": ((("do", None, "pick", "a", "b"),), ())}, table=table)
        self.assertEqual([wanted(program, ("p", 0), "z"), gift(program, ("p", 0), "z")], [["b"], None])
        self.assertEqual(self.check(program, "z", None).puts[0][1], "b")


if __name__ == "__main__":
    unittest.main()
