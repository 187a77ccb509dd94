"""What may be asked of any thing that is passed, whatever it is."""


def is_integer(thing):
    return isinstance(thing, int) and not isinstance(thing, bool)


def is_between(thing, low, high):
    """Whether a thing is an integer within these bounds, both included."""
    return is_integer(thing) and low <= thing <= high


def is_natural(thing):
    """Whether a thing is an integer from 0 on."""
    return is_integer(thing) and thing >= 0


def is_tuple(thing, low, high):
    """Whether a thing is a tuple of so many items, both bounds included."""
    return isinstance(thing, tuple) and low <= len(thing) <= high


def are_integers(thing):
    """Whether a thing is a tuple of integers."""
    return isinstance(thing, tuple) and all([is_integer(item) for item in thing])


def are_naturals(thing):
    """Whether a thing is a tuple of integers from 0 on."""
    return isinstance(thing, tuple) and all([is_natural(item) for item in thing])


def has_spot_form(thing):
    """Whether a thing is written like a spot of some state."""
    return is_tuple(thing, 3, 3) and isinstance(thing[0], str) and are_integers(thing[1:])
