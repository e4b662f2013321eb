"""Programs that are changed, with all earlier states."""

from signskept.checks import is_listed
from signskept.errors import BadChange, BadDraft, BadKind, BadRow, NoPlace, NothingToUndo
from signskept.programs import check_program

# For each kind of an edit how many parts its tuple has.
EDITS = {"row": 3, "more": 3, "out": 2}


class Trial:
    """What a draft gives to a with: a copy to work on, as which the draft is behind it."""

    def __init__(self, draft):
        self.draft = draft
        self.work = None

    def __enter__(self):
        self.work = self.draft.copy()
        return self.work

    def __exit__(self, kind, value, trace):
        draft = self.draft
        if self.work.keep is None or kind is not None:
            return
        draft._now = self.work._now
        draft._earlier = self.work._earlier


class Draft:
    """A program that is changed, and the programs that it was ahead of each change."""

    def __init__(self, program):
        check_program(program)
        self.keep = True
        self._now = program
        # A tuple, so that drafts may share it.
        self._earlier = ()

    def __eq__(self, other):
        return (isinstance(other, Draft) and self._now == other._now
                and self._earlier == other._earlier)

    def __len__(self):
        return len(self._earlier)

    def __getitem__(self, at):
        return self._now[at]

    def __setitem__(self, at, worth):
        self.put_row(at, worth)

    def __iter__(self):
        raise TypeError("a Draft is not iterated over: ask the program as it is for its places")

    def now(self):
        """The program as it is."""
        return self._now

    def put_row(self, place, row):
        """Put another row at a place."""
        self._go_on(self._now.with_row(place, row))

    def put_more(self, place, row):
        """Put a row ahead of the one at a place, or at the end of a block."""
        self._go_on(self._now.with_more(place, row))

    def take_out(self, places):
        """Take out the rows at some places."""
        self._go_on(self._now.without(places))

    def undo(self):
        """Take back the last change."""
        if len(self._earlier) == 0:
            raise NothingToUndo()
        self._now = self._earlier[-1]
        self._earlier = self._earlier[:-1]

    def copy(self):
        """An equal Draft, which goes on by itself."""
        other = Draft(self._now)
        other._earlier = self._earlier
        return other

    def trial(self):
        """For one with: a copy to work on, which is kept behind the block or not."""
        return Trial(self)

    def _go_on(self, program):
        """Be this program from now on, as one change."""
        self._earlier = self._earlier + (self._now,)
        self._now = program


def tried(draft, edits, *, keep=True):
    """The program to which some edits of a draft lead; they are kept in it or not."""
    if not isinstance(draft, Draft):
        raise BadDraft(draft)
    if not is_listed(edits) or not all([_is_edit(edit) for edit in edits]):
        raise BadChange(edits)
    if not isinstance(keep, bool):
        raise BadKind(keep)
    with draft.trial() as work:
        for index, edit in enumerate(edits):
            _make_edit(work, index, edit)
        if not keep:
            work.keep = None
    return work.now()


def _is_edit(thing):
    """Whether this has the form of an edit."""
    if not isinstance(thing, tuple) or len(thing) == 0 or not isinstance(thing[0], str):
        return False
    return thing[0] in EDITS and len(thing) == EDITS[thing[0]]


def _make_edit(draft, index, edit):
    """Make an edit; one that cannot be made is refused by its index."""
    try:
        if edit[0] == "row":
            draft.put_row(edit[1], edit[2])
        elif edit[0] == "more":
            draft.put_more(edit[1], edit[2])
        else:
            draft.take_out(edit[1])
    except (NoPlace, BadRow) as error:
        raise BadChange(index) from error
