"""A yard: a line kept over many deeds, each of which can be undone."""

from forthback.beats import added
from forthback.errors import BadDeed, Full, Lacks, NoBin, NoDeed, NoGate
from forthback.far import far_turns
from forthback.lines import gates, replaced, turned, turned_line, turned_widths
from forthback.texts import line_text
from forthback.walks import is_gate

# Each deed's word, and how many things it's handed.
DEEDS = {"go": 2, "put": 2, "take": 2, "widen": 2, "turn": 0}


def is_deed(thing):
    if not isinstance(thing, tuple) or len(thing) == 0 or not isinstance(thing[0], str):
        return False
    return thing[0] in DEEDS and len(thing) == 1 + DEEDS[thing[0]]


def refuse_no_bin(line, place):
    form, rooms = line
    if not 0 <= place < len(rooms):
        raise NoBin(place)


def refuse_no_gate(line, gate):
    if not is_gate(line, gate):
        raise NoGate(gate)


class Yard:
    def __init__(self, line, widths, standing):
        form, rooms = line
        first = ((form, tuple(rooms)), tuple(widths), tuple(standing), (0,) * gates(line), 0)
        # How it stood at first, then behind each deed that stands: undoing one leaves nothing of it.
        self.states = [first]
        self.noted = []

    def go(self, way, many=1):
        line, widths, standing, counts, came = self.states[-1]
        held, gone = far_turns(line, widths, standing, [(way, many)])
        self.states.append((line, widths, held, added(counts, gone), came))
        return gone

    def put(self, place, many):
        line, widths, standing, counts, came = self.states[-1]
        refuse_no_bin(line, place)
        form, rooms = line
        if standing[place] + many > rooms[place]:
            raise Full(place)
        return self.lay(place, many)

    def take(self, place, many):
        line, widths, standing, counts, came = self.states[-1]
        refuse_no_bin(line, place)
        if standing[place] < many:
            raise Lacks(place)
        return self.lay(place, -many)

    def lay(self, place, more):
        line, widths, standing, counts, came = self.states[-1]
        held = standing[place] + more
        self.states.append((line, widths, replaced(standing, place, held), counts, came + more))
        return held

    def widen(self, gate, wide):
        line, widths, standing, counts, came = self.states[-1]
        refuse_no_gate(line, gate)
        self.states.append((line, replaced(widths, gate, wide), standing, counts, came))
        return widths[gate]

    def turn(self):
        line, widths, standing, counts, came = self.states[-1]
        # What went forth went back, as the line stands now.
        gone = tuple([-count for count in turned_widths(line, counts)])
        about = (turned_line(line), turned_widths(line, widths), turned(line, standing), gone, came)
        self.states.append(about)

    def undo(self):
        if self.deeds() == 0:
            return False
        self.states.pop()
        return True

    def do(self, deeds, *, whole=True):
        for at, deed in enumerate(deeds):
            if not is_deed(deed):
                raise BadDeed(at)
        ahead = list(self.states)
        told = []
        self.noted.append(("in", len(deeds)))
        try:
            for deed in deeds:
                told.append(self.done(deed))
                self.noted.append(deed[0])
        except (NoBin, NoGate, Full, Lacks):
            self.noted.append(("out", len(told)))
            if whole:
                self.states = ahead
            raise
        self.noted.append(("out", len(told)))
        return told

    def done(self, deed):
        """Does one deed, and tells what it tells."""
        word, *things = deed
        if word == "go":
            return self.go(*things)
        if word == "put":
            return self.put(*things)
        if word == "take":
            return self.take(*things)
        if word == "widen":
            return self.widen(*things)
        return self.turn()

    def line(self):
        return self.states[-1][0]

    def widths(self):
        return self.states[-1][1]

    def standing(self):
        return self.states[-1][2]

    def counts(self):
        return self.states[-1][3]

    def came(self):
        return self.states[-1][4]

    def deeds(self):
        return len(self.states) - 1

    def as_of(self, many):
        if not 0 <= many <= self.deeds():
            raise NoDeed(many)
        told = Yard(self.line(), self.widths(), self.standing())
        told.states = self.states[:many + 1]
        return told

    def twin(self):
        return self.as_of(self.deeds())

    def marks(self):
        return list(self.noted)

    def __len__(self):
        return len(self.standing())

    def __eq__(self, other):
        return isinstance(other, Yard) and self.states[-1][:4] == other.states[-1][:4]

    def __str__(self):
        return str(line_text(self.line(), self.widths(), self.standing()))
