"""Runs of a whole group, in which functions call one another."""

from signskept.checks import is_between, is_listed
from signskept.effects import plan_of, replaced, step_behind
from signskept.errors import BadNumber, BadTurns
from signskept.functions import check_group, is_function, plain_program, start_marks

MOST_TURNS = 60
MOST_EVENTS = 200


class Stage:
    """A function that is being run: where it is, and what is sure of its variables there."""

    def __init__(self, called, body, plan, given):
        self.called = called
        self.body = body
        self.plan = plan
        self.block = body.first
        self.done_here = 0
        self.have = tuple([given.get(name, "") for name in body.variables])

    def has_row(self):
        """Whether the block has rows that are not done yet."""
        return self.done_here < len(self.plan[self.block])

    def targets(self):
        """The blocks to which the block goes."""
        return self.body.goes(self.block)

    def go_to(self, target):
        """Be at the beginning of another block."""
        self.block = target
        self.done_here = 0

    def sure_of(self, name):
        """The marks that are sure of a variable."""
        return self.have[self.body.variables.index(name)]


class Stack:
    """The functions that are being run, each called by the one ahead of it, and what was done."""

    def __init__(self, group):
        self.group = group
        self.plans = {word: plan_of(plain_program(group, word)) for word in group.words}
        self.stages = []
        self.done = []
        self.failed = []
        self._go_in(group.entry, start_marks(group))

    def do_row(self):
        """Do the next row of the function that was called last."""
        stage = self.stages[-1]
        place = (stage.block, stage.done_here)
        row = stage.body[place]
        step = stage.plan[stage.block][stage.done_here]
        stage.done_here = stage.done_here + 1
        self.done.append((stage.called, place, len(self.stages) - 1, stage.have))
        if row[0] == "do" and is_function(self.group, row[2]):
            parameters, _ = self.group.function(row[2])
            self._go_in(row[2], dict(zip(parameters, [stage.have[at] for at in step[1]])))
            return
        fails, stage.have = step_behind(step, stage.have)
        if fails:
            self.failed.append(len(self.done) - 1)

    def come_back(self):
        """End the function that was called last; the one that called it gets the answer."""
        stage = self.stages.pop()
        if not self.stages:
            return
        caller = self.stages[-1]
        target = caller.plan[caller.block][caller.done_here - 1][0]
        if target is not None:
            _, answer = self.group.function(stage.called)
            caller.have = replaced(caller.have, target, stage.sure_of(answer))

    def _go_in(self, word, given):
        """Begin a function, with marks for its parameters."""
        self.stages.append(Stage(word, plain_program(self.group, word), self.plans[word], given))


def _run_stack(stack, turns, most):
    """Do at most so many events, and what is no event behind the last one."""
    used = 0
    events = 0
    while stack.stages:
        stage = stack.stages[-1]
        targets = stage.targets()
        if not stage.has_row() and targets == ():
            stack.come_back()
            continue
        if events == most:
            return
        if stage.has_row():
            stack.do_row()
        elif len(targets) == 1:
            stage.go_to(targets[0])
        elif used == len(turns):
            return
        else:
            stage.go_to(targets[turns[used]])
            used = used + 1
        events = events + 1


def _are_turns(thing):
    """Whether this is a list or tuple of not too many integers 0 or 1."""
    if not is_listed(thing) or len(thing) > MOST_TURNS:
        return False
    return all([is_between(turn, 0, 1) for turn in thing])


class Run:
    """What happens when the entry of a group is run."""

    def __init__(self, group, turns, *, most=60):
        check_group(group)
        if not _are_turns(turns):
            raise BadTurns(turns)
        if not is_between(most, 1, MOST_EVENTS):
            raise BadNumber(most)
        stack = Stack(group)
        _run_stack(stack, turns, most)
        self._steps = stack.done
        self._fails = stack.failed
        self._ended = not stack.stages

    @property
    def steps(self):
        """For each row that is done the function, the place, the open calls, and what is sure ahead."""
        return list(self._steps)

    @property
    def ended(self):
        """Whether the entry, the outermost call, ended."""
        return self._ended

    def __len__(self):
        return len(self._steps)

    def fails(self):
        """The indexes of the steps with an operation, that is no call, whose needs all fail."""
        return list(self._fails)
