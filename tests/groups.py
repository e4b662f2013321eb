"""Groups, runs and paths once more, written in another way to compare with.

A group is told by a dict: its entry, its starts, and for each function a tuple (first, blocks,
parameters, answer, table), the table being a dict of words and tuples (arity, needs, z, s).
"""

from signskept.functions import Function, Group
from signskept.operations import Operation
from tests.plain import (FIT, OPERATIONS, all_roads, done, names_of, random_fit_table, random_row, random_table, row_of,
                         rule, with_table)

WORDS = ["f", "g", "p", "z"]
NAMES = ["z", "a", "s", "add"]


def operations_of(told):
    """The Operations of a table."""
    return {word: Operation(parts[0], parts[1], z=parts[2], s=parts[3]) for word, parts in told.items()}


def group_of(told):
    """The Group that is told."""
    functions = {word: Function(first, blocks, parameters=parameters, answer=answer, table=operations_of(table))
                 for word, (first, blocks, parameters, answer, table) in told["functions"].items()}
    return Group(told["entry"], functions, starts=told["starts"])


def random_group(chance, mark=None, many=3, many_blocks=2, most_rows=3, many_names=3, own=1):
    """A dict that tells a group; simple in the mark, if there is one."""
    words = WORDS[:chance.randint(1, many)]
    names = NAMES[:many_names]
    heads = {word: tuple(chance.sample(names, chance.randint(0, min(3, many_names)))) for word in words}
    answers = {word: chance.choice([None] + names + names) for word in words}
    functions = {}
    for at, word in enumerate(words):
        table = random_fit_table(chance, mark, own) if mark else random_table(chance, own)
        table = {"own" + "abcd"[at] + key: parts for key, parts in table.items()}
        known = {key: OPERATIONS[key] for key in (FIT[mark] if mark else OPERATIONS)}
        usable = {**known, **with_table(table), **{other: (len(heads[other]),) for other in words}}
        if mark:
            usable = {key: usable[key] for key in list(known) + list(table) + words}
        # Calls, and rows that hand on what they lack or want something, are more frequent than others.
        picked = list(usable) + words * 6 + ["xor", {None: "slt", "z": "shr", "s": "sar"}[mark]] * 3
        blocks = {}
        labels = ["p", "f", "do", "z"][:many_blocks]
        for label in labels:
            rows = [random_row(chance, names, picked, usable) for _ in range(chance.randint(0, most_rows))]
            rows = tuple(fitting(row, mark, words, answers) for row in rows)
            blocks[label] = (rows, tuple(chance.sample(labels, chance.randint(0, min(2, many_blocks)))))
        functions[word] = (chance.choice(labels), blocks, heads[word], answers[word], table)
    functions = {word: checked(parts, chance) for word, parts in functions.items()}
    for word, parts in functions.items():
        answers[word] = parts[3]
    functions = {word: (parts[0], {label: (tuple(fitting(row, mark, words, answers) for row in rows), goes)
                                   for label, (rows, goes) in parts[1].items()}) + parts[2:]
                 for word, parts in functions.items()}
    functions = {word: still_there(parts) for word, parts in functions.items()}
    entry = chance.choice(words)
    starts = {name: chance.choice(["", "z", "s", "zs", "sz"]) for name in heads[entry] if chance.random() < 0.6}
    return {"entry": entry, "functions": functions, "starts": starts}


def fitting(row, mark, words, answers):
    """The row, with the mark alone in widenings, and without an answer if a called function has none."""
    if row[0] == "widen" and mark:
        return ("widen", mark, row[2])
    if row[0] == "do" and row[2] in words and answers[row[2]] is None:
        return ("do", None) + row[2:]
    return row


def checked(parts, chance):
    """The parts of a function, with an answer that is one of its variables, or with none."""
    first, blocks, parameters, answer, table = parts
    names = names_of(blocks, parameters)
    if answer is not None and answer not in names:
        answer = chance.choice(names) if names else None
    return (first, blocks, parameters, answer, table)


def still_there(parts):
    """The parts of a function, its answer being a parameter or standing in a row."""
    first, blocks, parameters, answer, table = parts
    if answer is not None and answer not in names_of(blocks, parameters):
        first_rows, goes = blocks[first]
        blocks = {**blocks, first: ((("move", answer, answer),) + first_rows, goes)}
    return (first, blocks, parameters, answer, table)


def no_promises(told):
    """A dict that promises nothing."""
    return {word: (("",) * len(parts[2]), "") for word, parts in told["functions"].items()}


def random_promises(chance, told, texts=("", "z", "s", "zs", "sz"), within_starts=False):
    """For each function a tuple of wants and gives."""
    found = {}
    for word, (_, _, parameters, answer, _) in told["functions"].items():
        wants = [chance.choice(texts) for _ in parameters]
        if within_starts and word == told["entry"]:
            wants = ["".join(mark for mark in want if mark in told["starts"].get(name, ""))
                     for want, name in zip(wants, parameters)]
        found[word] = (tuple(wants), chance.choice(texts) if answer else "")
    return found


def calls_in(told, word):
    """The places of the rows that call, and the functions that they call, ascending."""
    blocks = told["functions"][word][1]
    return [((label, at), row[2]) for label in sorted(blocks) for at, row in enumerate(blocks[label][0])
            if row[0] == "do" and row[2] in told["functions"]]


def alone_of(told, word, promises):
    """The first block, blocks, starts and table of rules of a function by some promises."""
    first, blocks, parameters, answer, table = told["functions"][word]
    wants, gives = promises[word]
    if answer is not None:
        blocks = {label: (rows if goes else rows + (("do", None, "return", answer),), goes)
                  for label, (rows, goes) in blocks.items()}
    rules = with_table(table)
    for other, (asked, given) in promises.items():
        rules[other] = (len(asked), rule((asked,)), *(lambda *_, mark=mark, given=given: mark in given for mark in "zs"))
    rules["return"] = (1, lambda have: set(gives) <= have, lambda have: False, lambda have: False)
    return first, blocks, dict(zip(parameters, wants)), rules


def run_of(told, turns, most):
    """The steps of a run, the indexes of those that fail, and whether the entry ended.

    Each function is a process that says ahead of each event that it would do one.
    """
    steps, fails, left = [], [], list(turns)

    def running(word, given, depth):
        first, blocks, parameters, answer, table = told["functions"][word]
        now = {name: set(given.get(name, "")) for name in names_of(blocks, parameters)}
        label, rules = first, with_table(table)
        while True:
            rows, goes = blocks[label]
            for at, row in enumerate(rows):
                yield "row"
                steps.append((word, (label, at), depth, row_of(now)))
                if row[0] == "do" and row[2] in told["functions"]:
                    operands = [now[name] for name in row[3:]]
                    got = yield from running(row[2], dict(zip(told["functions"][row[2]][2], operands)), depth + 1)
                    if row[1] is not None:
                        now[row[1]] = got
                else:
                    failed, now = done(row, now, rules)
                    if failed:
                        fails.append(len(steps) - 1)
            if not goes:
                return now[answer] if answer is not None else None
            yield "go" if len(goes) == 1 or left else "stuck"
            label = goes[left.pop(0) if len(goes) == 2 else 0]

    events = 0
    for event in running(told["entry"], told["starts"], 0):
        if event == "stuck" or events == most:
            return steps, fails, False
        events += 1
    return steps, fails, True


class Paths:
    """The nodes of paths through one program, found by tries of its rows, and what spots cost."""

    def __init__(self, first, blocks, starts, mark, rules, needs, often=None):
        self.first, self.blocks, self.mark, self.rules = first, blocks, mark, rules
        self.names = names_of(blocks, starts)
        self.words = sorted({word for road in all_roads(first, blocks, len(blocks)) for word in road})
        self.needs = needs
        self.begins, self.onward, self.wishes, self.costs = {}, {}, set(), {}
        often = often or {}
        goes = [("", first)] + [(word, target) for word in self.words for target in blocks[word][1]]
        for go in goes:
            self.costs[go + (0,)] = often.get(go, 1)
        for word in self.words:
            for at in range(len(blocks[word][0]) + 1):
                self.costs[word, "", at] = sum(often.get(go, 1) for go in goes if go[1] == word)
        for name in self.names:
            if mark not in starts.get(name, ""):
                self.begins[(first, "", 0), name] = [(("", first, 0), name)]
        for word in self.words:
            for at, row in enumerate(blocks[word][0]):
                self.add_row((word, "", at), (word, "", at + 1), row)
            for target in blocks[word][1]:
                for name in self.names:
                    end = ((word, "", len(blocks[word][0])), name)
                    self.onward.setdefault(end, {})[(target, "", 0), name] = [((word, target, 0), name)]

    def sure(self, row, name, names):
        """Whether the mark is sure of a variable behind a row if it is of these ahead of it."""
        return self.mark in done(row, {other: {self.mark} if other in names else set() for other in self.names},
                                 self.rules)[1][name]

    def add_row(self, here, behind, row):
        for name in self.names:
            if not self.sure(row, name, self.names):
                self.begins[behind, name] = []
                continue
            for other in self.names:
                if not self.sure(row, name, [one for one in self.names if one != other]):
                    self.onward.setdefault((here, other), {})[behind, name] = []
        if row[0] == "do":
            need = [wants for wants in self.needs(row[2]) if set("".join(wants)) <= {self.mark}][0]
            self.wishes.update((here, name) for name, want in zip(row[3:], need) if want)

    def simple_paths(self, ahead=()):
        """All paths that come to no node twice, each as the list of what it passes."""
        found = []

        def go_on(path, passed):
            if path[-1] in self.wishes:
                found.append((tuple(path), passed))
            for node, between in self.onward.get(path[-1], {}).items():
                if node not in path:
                    go_on(path + [node], passed + between + [node])
        for node, ahead in self.begins.items():
            go_on([node], ahead + [node])
        return found

    def passed(self, path):
        """What a path passes, or None if it is none."""
        if not path or path[0] not in self.begins or path[-1] not in self.wishes:
            return None
        found = self.begins[path[0]] + list(path)
        for node, behind in zip(path, path[1:]):
            if behind not in self.onward.get(node, {}):
                return None
            found = found + self.onward[node][behind]
        return found

    def total(self, flow):
        """The sum of a flow, or None if it is none; a node ends with a spot and a variable."""
        load = {}
        for amount, path in flow:
            passed = self.passed(path)
            if passed is None or amount < 1:
                return None
            for spot in passed:
                load[spot] = load.get(spot, 0) + amount
        if any(load[spot] > self.cost(spot) for spot in load):
            return None
        return sum(amount for amount, _ in flow)

    def cost(self, spot):
        return self.costs[spot[0]]


class JoinedPaths(Paths):
    """The nodes of joined paths, each with a function ahead."""

    def __init__(self, told, mark, often=None):
        self.begins, self.onward, self.wishes, self.costs = {}, {}, set(), {}
        often = often or {}
        alone = {}
        for word in told["functions"]:
            table = told["functions"][word][4]
            first, blocks, _, rules = alone_of(told, word, no_promises(told))

            def needs(key, table=table):
                return table[key][1] if key in table else needs_of(key, told)
            lost = {name: "" for name in told["functions"][word][2]}
            alone[word] = one = Paths(first, blocks, lost, mark, rules, needs, often.get(word))
            self.wishes.update((word,) + node for node in one.wishes)
            self.costs.update({(word, spot): cost for spot, cost in one.costs.items()})
            for node, behind in one.onward.items():
                self.onward[(word,) + node] = {(word,) + other: [(word,) + spot for spot in passed]
                                               for other, passed in behind.items()}
            for node, passed in one.begins.items():
                row = one.blocks[node[0][0]][0][node[0][2] - 1] if node[0][2] else None
                if row is not None and row[0] == "do" and row[2] in told["functions"]:
                    continue
                sure = told["functions"][word][2] if word != told["entry"] else [
                    name for name, text in told["starts"].items() if mark in text]
                if row is None and node[1] in sure:
                    continue
                self.begins[(word,) + node] = [(word,) + spot for spot in passed]
        for word, one in alone.items():
            for (label, at), callee in calls_in(told, word):
                if label in one.words:
                    self.join(told, alone, word, (label, "", at), one.blocks[label][0][at], callee)

    def join(self, told, alone, word, here, row, callee):
        first, _, parameters, answer, _ = told["functions"][callee]
        for name, parameter in zip(row[3:], parameters):
            self.onward.setdefault((word, here, name), {})[callee, (first, "", 0), parameter] = [
                (callee, ("", first, 0), parameter)]
        if row[1] is not None:
            for label in alone[callee].words:
                rows, goes = alone[callee].blocks[label]
                if not goes:
                    node = (callee, (label, "", len(rows) - 1), answer)
                    self.onward.setdefault(node, {})[word, here[:2] + (here[2] + 1,), row[1]] = []

    def cost(self, spot):
        return self.costs[spot[:2]]


def needs_of(key, told):
    """The needs of a known operation, of a call, and of return, without promises."""
    if key in told["functions"]:
        return (("",) * len(told["functions"][key][2]),)
    if key == "return":
        return (("",),)
    return known_needs(key)


def known_needs(key):
    """The rows of wants of which one must hold for a known operation, as the table of the document tells them."""
    needs = {"shr": (("z",),), "sar": (("s",),), "udiv": (("z", "z"),), "urem": (("z", "z"),), "sdiv": (("s", "s"),),
             "srem": (("s", "s"),), "slt": (("s", "s"),), "ult": (("z", "z"), ("s", "s")), "equ": (("z", "z"), ("s", "s"))}
    return needs.get(key, (("",) * OPERATIONS[key][0],))
