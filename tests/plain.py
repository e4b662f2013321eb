"""The rules of dresses, operations and roads once more, written in another way to compare with.

Dresses are sets of marks here, programs are plain dicts of blocks, and nothing of the package is
used.
"""

import itertools

TEXTS = ("", "z", "s", "zs")


def text_of(marks):
    """A set of marks as a text in the order z, s."""
    return "".join(mark for mark in "zs" if mark in marks)


def true_marks(bits, narrow, wide):
    """The marks that are true of a register, as a set, bit by bit."""
    digits = [bits >> at & 1 for at in range(wide)]
    upper = digits[narrow:]
    found = set()
    if all(digit == 0 for digit in upper):
        found.add("z")
    if all(digit == digits[narrow - 1] for digit in upper):
        found.add("s")
    return found


def always(*_):
    return True


def never(*_):
    return False


def z(a):
    return "z" in a


def s(a):
    return "s" in a


def zs(a):
    return "z" in a and "s" in a


def z_and_z(a, b):
    return z(a) and z(b)


def s_and_s(a, b):
    return s(a) and s(b)


def z_or_z(a, b):
    return z(a) or z(b)


def alike(a, b):
    return z_and_z(a, b) or s_and_s(a, b)


# The table of the document: operands, a need, z of the answer, s of the answer.
OPERATIONS = {
    "load": (0, always, never, never),
    "loadz": (0, always, always, never),
    "loads": (0, always, never, always),
    "one": (0, always, always, always),
    "add": (2, always, never, never),
    "sub": (2, always, never, never),
    "mul": (2, always, never, never),
    "neg": (1, always, never, never),
    "shl": (1, always, never, never),
    "and": (2, always, z_or_z, s_and_s),
    "or": (2, always, z_and_z, s_and_s),
    "xor": (2, always, z_and_z, s_and_s),
    "not": (1, always, never, s),
    "shr": (1, z, z, z),
    "sar": (1, s, zs, s),
    "udiv": (2, z_and_z, z_and_z, never),
    "urem": (2, z_and_z, z_and_z, never),
    "sdiv": (2, s_and_s, never, never),
    "srem": (2, s_and_s, never, s_and_s),
    "ult": (2, alike, always, always),
    "equ": (2, alike, always, always),
    "slt": (2, s_and_s, always, always),
    "store": (2, always, never, never),
}


def signed(bits, size):
    """The number of so many bits, the highest of them being the sign."""
    return bits - 2 ** size if bits >= 2 ** (size - 1) else bits


def divided(a, b):
    """The quotient without its fraction, 0 for a division by 0."""
    if b == 0:
        return 0
    sign = -1 if (a < 0) != (b < 0) else 1
    return sign * (abs(a) // abs(b))


def rest(a, b):
    """The remainder with the sign of the first number, which it is for a division by 0."""
    if b == 0:
        return a
    return (-1 if a < 0 else 1) * (abs(a) % abs(b))


RECKONED = {
    "add": lambda a, b, size: a + b,
    "sub": lambda a, b, size: a - b,
    "mul": lambda a, b, size: a * b,
    "neg": lambda a, size: -a,
    "shl": lambda a, size: a * 2,
    "and": lambda a, b, size: a & b,
    "or": lambda a, b, size: a | b,
    "xor": lambda a, b, size: a ^ b,
    "not": lambda a, size: -a - 1,
    "shr": lambda a, size: a // 2,
    "sar": lambda a, size: signed(a, size) // 2,
    "udiv": lambda a, b, size: divided(a, b),
    "urem": lambda a, b, size: rest(a, b),
    "sdiv": lambda a, b, size: divided(signed(a, size), signed(b, size)),
    "srem": lambda a, b, size: rest(signed(a, size), signed(b, size)),
    "ult": lambda a, b, size: 1 if a < b else 0,
    "equ": lambda a, b, size: 1 if a == b else 0,
    "slt": lambda a, b, size: 1 if signed(a, size) < signed(b, size) else 0,
}


def reckoned(word, row, size):
    """What an operation answers for registers of this size, as an integer from 0 on."""
    return RECKONED[word](*row, size) % 2 ** size


def differs(word, row, narrow, wide):
    """Whether the low bits of the wide answer are other ones than those of the narrow one."""
    low = [bits % 2 ** narrow for bits in row]
    return reckoned(word, row, wide) % 2 ** narrow != reckoned(word, low, narrow)


def can_differ(word, row, narrow, wide):
    """Whether some registers of which these marks are true differ: a search of all of them."""
    choices = [[bits for bits in range(2 ** wide) if set(text) <= true_marks(bits, narrow, wide)]
               for text in row]
    return any(differs(word, bits, narrow, wide) for bits in itertools.product(*choices))


def rule(rows):
    """Whether one of some rows of wants holds, as a function of sets of marks."""
    return lambda *operands: any(all(set(want) <= have for want, have in zip(wants, operands)) for wants in rows)


def with_table(told):
    """The known operations and those of a dict of words and tuples (arity, needs, z, s) of rows of wants."""
    return {**OPERATIONS, **{word: (parts[0],) + tuple(map(rule, parts[1:])) for word, parts in told.items()}}


def random_wants(chance, arity, least, most, texts=TEXTS):
    """A tuple of some rows of wants."""
    return tuple(tuple(chance.choice(texts) for _ in range(arity)) for _ in range(chance.randint(least, most)))


def random_table(chance, many=3):
    """A dict of words and tuples (arity, needs, z, s)."""
    words = ["mix", "go", "first", "start", "block", "w", "x", "y"][:many]
    arities = [chance.randint(0, 3) for _ in words]
    return {word: (arity, random_wants(chance, arity, 1, 4), random_wants(chance, arity, 0, 4),
                   random_wants(chance, arity, 0, 4)) for word, arity in zip(words, arities)}


def done(row, dresses, table=OPERATIONS):
    """Whether the need of a row fails, and the dresses behind it; dresses are a dict of sets."""
    behind = dict(dresses)
    fails = False
    if row[0] == "widen":
        mark, name = row[1:]
        behind[name] = {"z", "s"} if dresses[name] == {"z", "s"} else {mark}
    elif row[0] == "move":
        behind[row[1]] = dresses[row[2]]
    else:
        _, need, gives_z, gives_s = table[row[2]]
        operands = [dresses[name] for name in row[3:]]
        fails = not need(*operands)
        given = {mark for mark, rule in (("z", gives_z), ("s", gives_s)) if rule(*operands)}
        if row[1] is not None:
            behind[row[1]] = given
    return fails, behind


def names_of(blocks, starts):
    """All variables of blocks and starts, ascending."""
    found = set(starts)
    for rows, _ in blocks.values():
        for row in rows:
            found.update({"do": row[1:2] + row[3:], "move": row[1:], "widen": row[2:]}[row[0]])
    return sorted(found - {None})


def begin(blocks, starts):
    """The dresses at the beginning, a dict of sets."""
    return {name: set(starts.get(name, "")) for name in names_of(blocks, starts)}


def row_of(dresses):
    """Dresses as a row of texts, ascending by variables."""
    return tuple(text_of(dresses[name]) for name in sorted(dresses))


def all_roads(first, blocks, most):
    """All roads of at most so many blocks, in the told order."""
    found = [(first,)]
    for road in found:
        if len(road) < most:
            found.extend(road + (word,) for word in blocks[road[-1]][1])
    return sorted(found, key=lambda road: (len(road), road))


def walked(blocks, starts, road, table=OPERATIONS):
    """Along a road: the steps (place, row of dresses), the row behind it, and the indexes of fails."""
    now = begin(blocks, starts)
    steps, fails = [], []
    for word in road:
        for at, row in enumerate(blocks[word][0]):
            steps.append(((word, at), row_of(now)))
            failed, now = done(row, now, table)
            if failed:
                fails.append(len(steps) - 1)
    return steps, row_of(now), fails


def explored(first, blocks, starts, table=OPERATIONS):
    """For each entry the fewest rows ahead of it, by going on until nothing gets better.

    Second, for each place that can fail the fewest rows ahead of it.
    """
    best = {(first, row_of(begin(blocks, starts))): 0}
    names = names_of(blocks, starts)
    fewest = {}
    waiting = list(best)
    while waiting:
        word, dresses = entry = waiting.pop(0)
        now = {name: set(text) for name, text in zip(names, dresses)}
        for at, row in enumerate(blocks[word][0]):
            failed, now = done(row, now, table)
            if failed:
                many = best[entry] + at
                fewest[word, at] = min(many, fewest.get((word, at), many))
        behind = best[entry] + len(blocks[word][0])
        for target in blocks[word][1]:
            reached = (target, row_of(now))
            if reached not in best or behind < best[reached]:
                best[reached] = behind
                waiting.append(reached)
    return best, fewest


def widened(bits, mark, narrow):
    """A register behind a widening, reckoned by its low number; below 0 if it is so by s."""
    low = bits % 2 ** narrow
    return signed(low, narrow) if mark == "s" else low


def played(blocks, starts, road, run, narrow, wide, table=OPERATIONS):
    """Along a road with a run of bits: the bits ahead of each step and behind the road, and the fails.

    The bits are dicts by variables; None if the run is not true.
    """
    answers = list(run[1])

    def next_answer(given):
        if answers and given <= true_marks(answers[0], narrow, wide):
            return answers.pop(0)
        return None
    names = names_of(blocks, starts)
    if len(run[0]) != len(names) or not all(0 <= bits < 2 ** wide for bits in run[0] + run[1]):
        return None
    for name, bits in zip(names, run[0]):
        if not set(starts.get(name, "")) <= true_marks(bits, narrow, wide):
            return None
    found = gone(blocks, dict(zip(names, run[0])), road, next_answer, (narrow, wide), table)
    return None if answers else found


def gone(blocks, now, road, next_answer, sizes, table):
    """As played, with the bits at the beginning, and a function that tells an answer for its marks."""
    narrow, wide = sizes
    rows, fails = [now], []
    for row in [row for word in road for row in blocks[word][0]]:
        ahead = rows[-1]
        marks = {name: true_marks(ahead[name], narrow, wide) for name in ahead}
        failed, _ = done(row, marks, table)
        if failed:
            fails.append(len(rows) - 1)
        if row[0] == "move":
            behind = {row[1]: ahead[row[2]]}
        elif row[0] == "widen":
            behind = {row[2]: widened(ahead[row[2]], row[1], narrow) % 2 ** wide}
        else:
            # What an operation gives is seen at a variable of its own.
            _, told = done(row[:1] + ("the answer",) + row[2:], marks, table)
            answer = next_answer(told["the answer"])
            if answer is None:
                return None
            behind = {row[1]: answer}
        rows.append({name: behind.get(name, ahead[name]) for name in ahead})
    return rows, fails


def random_run(chance, blocks, starts, road, sizes, table=OPERATIONS):
    """A true run along a road, whose registers are drawn of all that may stand there."""
    narrow, wide = sizes
    answers = []

    def drawn(marks):
        return chance.choice([bits for bits in range(2 ** wide) if set(marks) <= true_marks(bits, narrow, wide)])

    def next_answer(given):
        answers.append(drawn(given))
        return answers[-1]
    begins = {name: drawn(starts.get(name, "")) for name in names_of(blocks, starts)}
    gone(blocks, begins, road, next_answer, sizes, table)
    return tuple(begins.values()), tuple(answers)


def random_row(chance, names, words, table=OPERATIONS):
    """A row of any kind, with these variables and words."""
    kind = chance.random()
    if kind < 0.15:
        return ("move", chance.choice(names), chance.choice(names))
    if kind < 0.35:
        return ("widen", chance.choice("zs"), chance.choice(names))
    word = chance.choice(words)
    answer = chance.choice(names + [None])
    return ("do", answer, word) + tuple(chance.choice(names) for _ in range(table[word][0]))


def random_program(chance, many_blocks=4, many_names=3, most_rows=4, table=OPERATIONS):
    """A tuple of first, blocks and starts, with known operations and those of a table."""
    # Variables and blocks may have the words of marks, of operations and of kinds of rows, too.
    names = ["z", "a", "s", "add", "move"][:many_names]
    blocks = ["p", "s", "do", "z", "t", "u"][:many_blocks]
    words = list(table)
    told = {}
    for word in blocks:
        rows = tuple(random_row(chance, names, words, table) for _ in range(chance.randint(0, most_rows)))
        told[word] = (rows, tuple(chance.sample(blocks, chance.randint(0, min(2, many_blocks)))))
    starts = {name: chance.choice(TEXTS + ("sz",)) for name in names if chance.random() < 0.5}
    return chance.choice(blocks), told, starts


# The known operations that are simple in a mark.
FIT = {"z": "load loadz loads one add sub mul neg shl or xor not shr udiv urem ult equ store".split(),
       "s": "load loadz loads one add sub mul neg shl and or xor not sar sdiv srem ult slt equ store".split()}


def random_fit_table(chance, mark, many=3, most_needs=3):
    """A dict of words and tuples (arity, needs, z, s), all simple in a mark."""
    told = {}
    for word, (arity, needs, _, _) in random_table(chance, many).items():
        fine = random_wants(chance, arity, 1, 1, ("", "", mark))
        needs = needs[:chance.randint(0, most_needs - 1)]
        at = chance.randint(0, len(needs))
        mine = random_wants(chance, arity, 0, 1, ("", mark))
        others = random_wants(chance, arity, 0, 3)
        told[word] = (arity, needs[:at] + fine + needs[at:]) + ((mine, others) if mark == "z" else (others, mine))
    return told


def random_fit_program(chance, mark, told=None, **named):
    """As random_program, all rows being simple in a mark; told is a table that is so."""
    table = with_table(told or {})
    few = {word: table[word] for word in FIT[mark] + sorted(told or {})}
    first, blocks, starts = random_program(chance, table=few, **named)
    blocks = {word: (tuple(("widen", mark, row[2]) if row[0] == "widen" else row for row in rows), goes)
              for word, (rows, goes) in blocks.items()}
    return first, blocks, starts


def met(blocks, starts, road, mark, puts, table=OPERATIONS):
    """Along a road with puts: tuples (point, dresses behind what is put there), and the widenings met.

    Third, the row behind each point, or None.
    """
    now = begin(blocks, starts)
    found, many, rows = [], 0, []

    def come_by(spot):
        nonlocal many
        for at, name in puts:
            if at == spot:
                now.update(done(("widen", mark, name), now)[1])
                many += 1
    ahead = ""
    for word in road:
        come_by((ahead, word, 0))
        for at, row in enumerate(blocks[word][0] + (None,)):
            come_by((word, "", at))
            found.append(((word, "", at), dict(now)))
            rows.append(row)
            if row is not None:
                now.update(done(row, now, table)[1])
        ahead = word
    return found, many, rows


def all_spots(first, blocks):
    """All spots of the blocks that are on a road, ascending."""
    words = sorted({word for road in all_roads(first, blocks, len(blocks)) for word in road})
    return sorted([("", first, 0)] + [(word, target, 0) for word in words for target in blocks[word][1]]
                  + [(word, "", at) for word in words for at in range(len(blocks[word][0]) + 1)])
