"""Of what kind a thing is, where anything may be handed in."""


def is_number(thing):
    # Python counts True and False among its whole numbers, the document does not.
    return isinstance(thing, int) and not isinstance(thing, bool)


def is_number_from(thing, least):
    return is_number(thing) and thing >= least


def is_tuple_of(thing, many):
    return isinstance(thing, tuple) and len(thing) == many
