"""The refusals. Their words leave the fields out: a field may be a number too long for Python to write."""


class Unlike(ValueError):
    """A table is of another line, standing or other widths."""


class NotAlike(ValueError):
    """Two standings of a ring don't hold as many."""


class NoStep(ValueError):
    """From the gate at this place of a walk no step leads to the next one."""

    def __init__(self, at):
        ValueError.__init__(self, "no step leads on in this walk")
        self.at = at


class BadWord(ValueError):
    """In a text the word, or the turn, at this place can't stand there."""

    def __init__(self, at):
        ValueError.__init__(self, "a word of this text can't stand there")
        self.at = at


class BadRow(ValueError):
    """This row of a desk's text isn't so written."""

    def __init__(self, row):
        ValueError.__init__(self, "a row of this text isn't so written")
        self.row = row


class BadDeed(ValueError):
    """What is at this place among the deeds is no deed."""

    def __init__(self, at):
        ValueError.__init__(self, "one of these is no deed")
        self.at = at


class NoBin(LookupError):
    """The line has no bin of this place."""

    def __init__(self, place):
        LookupError.__init__(self, "there is no such bin")
        self.place = place


class NoGate(LookupError):
    """The line has no gate of this number."""

    def __init__(self, gate):
        LookupError.__init__(self, "there is no such gate")
        self.gate = gate


class NoDeed(LookupError):
    """Not so many deeds could be undone."""

    def __init__(self, many):
        LookupError.__init__(self, "there are not so many deeds")
        self.many = many


class TooMany(OverflowError):
    """So many things lie in the bins, more than a lane tells."""

    def __init__(self, many):
        OverflowError.__init__(self, "too many things lie in the bins")
        self.many = many


class Full(OverflowError):
    """The bin of this place hasn't room for that."""

    def __init__(self, place):
        OverflowError.__init__(self, "the bin hasn't room for that")
        self.place = place


class Barred(RuntimeError):
    """No standing leads here, as this gate shows."""

    def __init__(self, gate):
        RuntimeError.__init__(self, "no standing leads here")
        self.gate = gate


class Lacks(RuntimeError):
    """The bin of this place doesn't hold as many."""

    def __init__(self, place):
        RuntimeError.__init__(self, "the bin doesn't hold as many")
        self.place = place


class Open(RuntimeError):
    """The line isn't a row with both ends shut."""


class NoRow(RuntimeError):
    """The line is a ring, where a row is wanted."""
