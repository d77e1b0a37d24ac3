"""Histories of turns, and what is forgotten of them."""

from forthback.beats import BACK, FORTH, contrary
from forthback.kinds import is_number_from, is_tuple_of


def is_turns(thing):
    return isinstance(thing, list) and all([is_turn(one) for one in thing])


def is_turn(thing):
    if not is_tuple_of(thing, 2):
        return False
    way, many = thing
    return (way == FORTH or way == BACK) and is_number_from(many, 1)


def joined(turns):
    told = []
    for way, many in turns:
        if told and told[-1][0] == way:
            told[-1] = (way, told[-1][1] + many)
        else:
            told.append((way, many))
    return told


def beats_in(turns):
    return sum([many for way, many in turns])


def net(turns):
    return sum([many if way == FORTH else -many for way, many in turns])


def back_turns(turns):
    return [(contrary(way), many) for way, many in reversed(turns)]


def is_between_longer(turns, at):
    """Whether the turn at this place, neither the first nor the last, is no longer than both beside it."""
    return turns[at][1] <= min(turns[at - 1][1], turns[at + 1][1])


def forgotten(turns):
    told = []
    for turn in joined(turns):
        told.append(turn)
        # All but the last three have been looked at, and what is made of these only grows at the end.
        while len(told) >= 3 and is_between_longer(told, len(told) - 2):
            told[-3:] = [made_one(told[-3:])]
    return told


def made_one(three):
    (way, first), (other, midst), (same, last) = three
    return way, first - midst + last


def is_forgotten(thing):
    return is_turns(thing) and forgotten(thing) == thing


def so_often(turns, many):
    told = []
    doubled = forgotten(turns)
    # What is left is one in whatever order, so pieces may be forgotten first: 1, 2, 4, .. times the turns.
    while many > 0:
        many, odd = divmod(many, 2)
        if odd:
            told = forgotten(told + doubled)
        doubled = forgotten(doubled + doubled)
    return told


def forgets(turns):
    told = joined(turns)
    return [at for at in range(1, len(told) - 1) if is_between_longer(told, at)]
