"""Sessions: definitions of names, changes that can be undone and redone, and terms that use the names."""

from allendless.errors import BadName, NameTaken, NothingDefined, NothingToRedo, NothingToUndo, TooGreat, Unknown
from allendless.judging import kind_of
from allendless.kinds import free_names, is_name, plainly_named, put_in, written

MOST_NODES = 200
MOST_DEPTH = 40


class Kept:
    """What a session was when a with block was entered, and what it kept for the blocks around."""

    def __init__(self, now, past, coming, around):
        self.now = now
        self.past = past
        self.coming = coming
        self.around = around


def _check_bounds(term):
    """Refuse a term that has more nodes or is deeper than one that is handed in may be."""
    depths = []
    for _, parent, _ in written(term):
        depths.append(depths[parent] + 1 if parent >= 0 else 0)
    if len(depths) > MOST_NODES or max(depths) > MOST_DEPTH:
        raise TooGreat("term")


class Session:
    """Definitions in their order; those ahead of each change are kept, to go back to, and those of undone changes."""

    def __init__(self):
        self.now = ()
        self.past = ()
        self.coming = ()
        self.kept = None

    def __eq__(self, other):
        if not isinstance(other, Session):
            return NotImplemented
        return self.now == other.now

    def __ne__(self, other):
        if not isinstance(other, Session):
            return NotImplemented
        return self.now != other.now

    def __len__(self):
        return len(self.now)

    def __enter__(self):
        self.kept = Kept(self.now, self.past, self.coming, self.kept)
        return self

    def __exit__(self, kind, value, trace):
        kept = self.kept
        self.now = kept.now
        self.past = kept.past
        self.coming = kept.coming
        self.kept = kept.around

    def change(self, now):
        """Go on with other definitions; there is nothing to redo then."""
        self.past = self.past + (self.now,)
        self.coming = ()
        self.now = now

    def define(self, name, term):
        """Give a term a name."""
        if not is_name(name):
            raise BadName(name)
        if name in [other for other, _ in self.now]:
            raise NameTaken(name)
        self.closed(term)
        self.change(self.now + ((name, term),))

    def drop(self):
        """Take the last definition away."""
        if not self.now:
            raise NothingDefined()
        self.change(self.now[:-1])

    def definitions(self):
        """The pairs (name, term), as they were given."""
        return self.now

    def closed(self, term):
        """The term with the terms of all definitions in the place of their names, plainly named."""
        known = {name: True for name, _ in self.now}
        free = free_names(term)
        for name in free:
            if name not in known:
                raise Unknown(name)
        made = term
        _check_bounds(made)
        for name, told in self.now[::-1]:
            if name in free:
                made = put_in(made, name, told)
                # Putting in makes no term smaller, so what is too great already stays so.
                _check_bounds(made)
                free = free_names(made)
        made = plainly_named(made)
        kind_of(made, ())
        return made

    def undo(self):
        """Take back the last change that has not been undone."""
        if not self.past:
            raise NothingToUndo()
        self.coming = self.coming + (self.now,)
        self.now = self.past[-1]
        self.past = self.past[:-1]

    def redo(self):
        """Do the change again that was undone last."""
        if not self.coming:
            raise NothingToRedo()
        self.past = self.past + (self.now,)
        self.now = self.coming[-1]
        self.coming = self.coming[:-1]
