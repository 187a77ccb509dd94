"""Sources: what of a state tells its words, and in which least ways."""

from itertools import combinations

from barewords.errors import NoLot, NoSource, NoSpot, TooMany
from barewords.finding import found, told_of
from barewords.telling import met, told
from barewords.things import are_integers, has_spot_form, is_integer, is_tuple

MOST_SOURCES = 10


def sources(program, state):
    """The ascending list of the met cells and of the frames that wait."""
    cells = [("cell", place) for place in met(program, state)]
    return cells + [("wait", number) for number in range(len(state[0]) - 1)]


def is_lot(thing, many):
    """Whether a thing is a lot of numbers below this one."""
    if not are_integers(thing):
        return False
    return all([low < high for low, high in zip((-1, *thing), (*thing, many))])


def told_with(program, state, asked):
    """What told_by returns for a list of sources."""
    return told_of(found(program, state, {source: True for source in asked}))


def told_by(program, state, lot):
    """The dict from the spots that have one head in every kinding by a lot to this head."""
    there = sources(program, state)
    if not is_lot(lot, len(there)):
        raise NoLot()
    return told_with(program, state, [there[number] for number in lot])


def check_spot(program, state, spot):
    """Raise NoSpot unless this is a told spot."""
    # A flag in a tuple would be found as the number that it is like.
    if not has_spot_form(spot) or spot not in told(program, state):
        raise NoSpot()


def tells(program, state, spot, there, lot):
    """Whether a lot of the sources that are there tells a spot that is told by all of them."""
    return spot in told_with(program, state, [there[number] for number in lot])


def tellers(program, state, spot):
    """The ascending list of the least lots that tell a spot its head."""
    check_spot(program, state, spot)
    there = sources(program, state)
    if len(there) > MOST_SOURCES:
        raise TooMany(MOST_SOURCES)
    # What cannot be left out is in each lot that tells; most often there is nothing to choose beside.
    needed = []
    others = []
    for number in range(len(there)):
        rest = [one for one in range(len(there)) if one != number]
        if tells(program, state, spot, there, rest):
            others.append(number)
        else:
            needed.append(number)
    least = []
    for many in range(len(others) + 1):
        for more in combinations(others, many):
            lot = tuple(sorted([*needed, *more]))
            if not has_within(lot, least) and tells(program, state, spot, there, lot):
                least.append(lot)
    return sorted(least)


def has_within(lot, lots):
    """Whether one of these lots lies within a lot."""
    return any([all([number in lot for number in one]) for one in lots])


def is_teller(program, state, spot, thing):
    """Whether a thing is a lot that tells a spot its head."""
    check_spot(program, state, spot)
    there = sources(program, state)
    return is_lot(thing, len(there)) and tells(program, state, spot, there, thing)


def losses(program, state, source):
    """The ascending list of the told spots that are told no more without a source."""
    there = sources(program, state)
    if not is_tuple(source, 2, 2) or not isinstance(source[0], str) or not is_integer(source[1]):
        raise NoSource()
    if source not in there:
        raise NoSource()
    left = told_with(program, state, [one for one in there if one != source])
    return sorted([spot for spot in told(program, state) if spot not in left])
