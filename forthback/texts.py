"""Texts of lines and of turns, written and read."""

from forthback.beats import BACK, FORTH
from forthback.errors import BadWord
from forthback.lines import RING, ROW

FIGURES = "0123456789"
LINE_FIGURES = 10
TURN_FIGURES = 13
WIDE = "~"
NO_TURNS = "-"


def line_text(line, widths, standing):
    form, rooms = line
    words = [form]
    for width, held, room in zip(widths, standing, rooms):
        words += [width_text(width), f"{held}/{room}"]
    if form == ROW:
        words.append(width_text(widths[-1]))
    return " ".join(words)


def width_text(width):
    return WIDE if width is None else str(width)


def line_in(text):
    words = text.split(" ")
    for at, word in enumerate(words):
        if not can_stand(word, at):
            raise BadWord(at)
    if not is_whole(words):
        raise BadWord(len(words))
    bins = [bin_in(word) for word in words[2::2]]
    rooms = tuple([room for held, room in bins])
    standing = tuple([held for held, room in bins])
    return (words[0], rooms), tuple([width_in(word) for word in words[1::2]]), standing


def can_stand(word, at):
    if at == 0:
        return word == ROW or word == RING
    return is_width_text(word, LINE_FIGURES) if at & 1 else is_bin_text(word)


def is_whole(words):
    """Whether a line's text may end with the last of these words, all of which can stand there."""
    if words[0] == ROW:
        return len(words) >= 4 and len(words) & 1 == 0
    return len(words) >= 5 and len(words) & 1 == 1


def is_number_text(word, most_figures):
    # Python takes the figures of other scripts for figures too, so each sign is looked at.
    if not 1 <= len(word) <= most_figures or not all([sign in FIGURES for sign in word]):
        return False
    return word == "0" or word[0] != "0"


def is_width_text(word, most_figures):
    return word == WIDE or is_number_text(word, most_figures)


def width_in(word):
    return None if word == WIDE else int(word)


def is_bin_text(word):
    parts = word.split("/")
    if len(parts) != 2 or not all([is_number_text(part, LINE_FIGURES) for part in parts]):
        return False
    held, room = bin_in(word)
    return room >= 1 and held <= room


def bin_in(word):
    """The pair (held, room)."""
    held, room = word.split("/")
    return int(held), int(room)


def turns_text(turns):
    if len(turns) == 0:
        return NO_TURNS
    return ", ".join([f"{way} {many}" for way, many in turns])


def turns_in(text):
    if text == NO_TURNS:
        return []
    told = []
    for at, part in enumerate(text.split(", ")):
        if not is_turn_text(part):
            raise BadWord(at)
        way, many = part.split(" ")
        told.append((way, int(many)))
    return told


def is_turn_text(text):
    words = text.split(" ")
    if len(words) != 2:
        return False
    way, many = words
    return is_way_text(way) and is_number_text(many, TURN_FIGURES) and many != "0"


def is_way_text(word):
    return word == FORTH or word == BACK
