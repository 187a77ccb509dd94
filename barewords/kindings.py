"""Kindings that are handed in: whether a thing is one."""

from barewords.finding import LINK_HEADS, Finding, cell_letters, form_fits
from barewords.kinds import all_kinds, are_kinds, is_kind
from barewords.things import is_integer, is_tuple


def is_closed(kind):
    return all([one[0] != "letter" for one in all_kinds(kind)])


def are_closed_kinds(thing, many):
    """Whether a thing is a tuple of so many closed kinds."""
    return is_tuple(thing, many, many) and are_kinds(thing) and all([is_closed(kind) for kind in thing])


def are_letters(program, pile, thing):
    """Whether a thing has closed kinds for the letters of each frame."""
    if not is_tuple(thing, len(pile), len(pile)):
        return False
    counts = [program.bodies[body][0] for body, _, _ in pile]
    return all([are_closed_kinds(kinds, many) for kinds, many in zip(thing, counts)])


def is_of_cell(program, cell, thing):
    """Whether a thing is a pair of a kind that a cell may have and kinds beside, whatever its words are."""
    if not is_tuple(thing, 2, 2) or not is_kind(thing[0]):
        return False
    kind, kinds = thing
    many = cell_letters(program, kind[0], cell)
    return kind[0] in LINK_HEADS and is_closed(kind) and many is not None and are_closed_kinds(kinds, many)


def are_cells(program, heap, thing):
    """Whether a thing is a dict from places of cells to what these may have."""
    if not isinstance(thing, dict) or not all([is_integer(place) and place in heap for place in thing]):
        return False
    return all([is_of_cell(program, heap[place], pair) for place, pair in thing.items()])


def followed(program, state, letters, cells):
    """What is found of a state if letters and cells have these closed kinds; None if words do not fit them."""
    finding = Finding(program, state, None)
    web = finding.web
    for kinds in letters:
        finding.letters.append(web.all_made(kinds, ()))
    for place, (kind, kinds) in cells.items():
        finding.cells[place] = (web.made(kind, ()), web.all_made(kinds, ()))
    for place in cells:
        form_fits(finding, place)
    finding.goes_on()
    # Where a cell was left out that a word asks for, it has been put in on the way.
    return finding if finding.is_right and len(finding.cells) == len(cells) else None


def found_by(program, state, thing):
    """What is found of a state by a kinding; None if a thing is none."""
    if not is_tuple(thing, 2, 2):
        return None
    letters, cells = thing
    if not are_letters(program, state[0], letters) or not are_cells(program, dict(state[1]), cells):
        return None
    return followed(program, state, letters, cells)


def is_kinding(program, state, thing):
    """Whether a thing is a kinding of a state."""
    return found_by(program, state, thing) is not None
