"""A desk: the rows of a text, answered by a yard."""

from forthback.beats import BACK, FORTH
from forthback.been import depth, had
from forthback.errors import BadRow, BadWord, Barred, Full, Lacks, NoBin, NoGate, NoRow, Open
from forthback.far import far, when
from forthback.pace import pace
from forthback.rest import rest
from forthback.texts import TURN_FIGURES, is_number_text, is_turn_text, is_way_text, is_width_text
from forthback.texts import line_in, turns_in, turns_text, width_in, width_text
from forthback.turns import forgotten
from forthback.who import refuse_ring, who
from forthback.yard import Yard, refuse_no_bin, refuse_no_gate

DONE = "done"
TURNS = "turns"


def forth_row(yard, many):
    return numbers_text(yard.go(FORTH, many))


def back_row(yard, many):
    return numbers_text(yard.go(BACK, many))


def put_row(yard, place, many):
    return str(yard.put(place, many))


def take_row(yard, place, many):
    return str(yard.take(place, many))


def widen_row(yard, gate, wide):
    return width_text(yard.widen(gate, wide))


def turn_row(yard):
    yard.turn()
    return DONE


def undo_row(yard):
    return DONE if yard.undo() else "nothing"


def line_row(yard):
    return str(yard)


def counts_row(yard):
    return numbers_text(yard.counts())


def far_row(yard, way, many):
    return numbers_text(far(yard.line(), yard.widths(), yard.standing(), way, many))


def when_row(yard, gate, many):
    refuse_no_gate(yard.line(), gate)
    beats = when(yard.line(), yard.widths(), yard.standing(), gate, many)
    return "never" if beats is None else str(beats)


def been_row(yard, way, many):
    held, gone = had(yard.line(), yard.widths(), yard.standing(), way, many)
    return numbers_text(held)


def depth_row(yard, way, most):
    return str(depth(yard.line(), yard.widths(), yard.standing(), way, most))


def pace_row(yard):
    top, bottom = pace(yard.line(), yard.widths(), yard.standing())
    return f"{top}/{bottom}"


def rest_row(yard):
    return numbers_text(rest(yard.line(), yard.widths(), yard.standing()))


def who_row(yard, place, way, many):
    refuse_ring(yard.line())
    refuse_no_bin(yard.line(), place)
    found = who(yard.line(), yard.widths(), yard.standing(), place, way, many)
    return "-" if found is None else numbers_text(found)


def numbers_text(numbers):
    return " ".join([str(number) for number in numbers])


# Of each first word what the others are; SOME is an N from 1 on.
FORMS = {
    "forth": ("N",),
    "back": ("N",),
    "put": ("BIN", "SOME"),
    "take": ("BIN", "SOME"),
    "widen": ("GATE", "W"),
    "turn": (),
    "undo": (),
    "line": (),
    "counts": (),
    "far": ("WAY", "N"),
    "when": ("GATE", "N"),
    "been": ("WAY", "N"),
    "depth": ("WAY", "N"),
    "pace": (),
    "rest": (),
    "who": ("BIN", "WAY", "N"),
}
ROWS = {
    "forth": forth_row,
    "back": back_row,
    "put": put_row,
    "take": take_row,
    "widen": widen_row,
    "turn": turn_row,
    "undo": undo_row,
    "line": line_row,
    "counts": counts_row,
    "far": far_row,
    "when": when_row,
    "been": been_row,
    "depth": depth_row,
    "pace": pace_row,
    "rest": rest_row,
    "who": who_row,
}


def is_row(text):
    word, *others = text.split(" ")
    if word == TURNS:
        return all([is_turn_text(part) for part in turns_of(text).split(", ")])
    forms = FORMS.get(word)
    if forms is None or len(forms) != len(others):
        return False
    return all([fits(other, form) for other, form in zip(others, forms)])


def turns_of(text):
    """What stands behind the first word of a row and its blank."""
    word, blank, others = text.partition(" ")
    return others


def fits(word, form):
    if form == "WAY":
        return is_way_text(word)
    if form == "W":
        return is_width_text(word, TURN_FIGURES)
    return is_number_text(word, TURN_FIGURES) and (form != "SOME" or word != "0")


def thing_in(word, form):
    # No word but a width's can be that of a wide gate, so numbers may be read as widths are.
    return word if form == "WAY" else width_in(word)


def yard_in(text):
    try:
        line, widths, standing = line_in(text)
    except BadWord:
        raise BadRow(0) from None
    return Yard(line, widths, standing)


def answer(yard, text):
    word, *others = text.split(" ")
    if word == TURNS:
        return turns_text(forgotten(turns_in(turns_of(text))))
    things = [thing_in(other, form) for other, form in zip(others, FORMS[word])]
    row = ROWS[word]
    return row(yard, *things)


def answer_or_refusal(yard, text):
    try:
        return answer(yard, text)
    except NoBin:
        name = "NoBin"
    except NoGate:
        name = "NoGate"
    except Full:
        name = "Full"
    except Lacks:
        name = "Lacks"
    except Barred:
        name = "Barred"
    except Open:
        name = "Open"
    except NoRow:
        name = "NoRow"
    return f"refused {name}"


def answers(text):
    rows = text.split("\n")
    yard = yard_in(rows[0])
    for at, row in enumerate(rows):
        if at > 0 and not is_row(row):
            raise BadRow(at)
    return [answer_or_refusal(yard, row) for row in rows[1:]]
