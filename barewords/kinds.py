"""Kinds: what is one, the letters in it, and kinds put in for these.

A kind that was returned may be deeper than Python's calls may nest, so
everything here goes through kinds by lists of what is still to be done.
"""

from barewords.errors import NoKind, NoKinds
from barewords.things import is_natural, is_tuple


def has_outer_form(thing):
    """Whether a thing is a kind if those within it, told by kinds_within, are."""
    if not is_tuple(thing, 1, 3) or not isinstance(thing[0], str):
        return False
    head, *rest = thing
    if head in ("num", "nil"):
        return len(rest) == 0
    if head in ("data", "fun"):
        if len(rest) != 2:
            return False
        if head == "data":
            return is_natural(rest[0]) and isinstance(rest[1], tuple)
        return is_tuple(rest[0], 1, 3)
    if len(rest) != 1:
        return False
    if head == "row":
        return is_tuple(rest[0], 1, 4)
    return head == "box" or head == "letter" and is_natural(rest[0])


def kinds_within(kind):
    """The kinds of which a kind is made, in order."""
    head = kind[0]
    if head == "row":
        return kind[1]
    if head == "data":
        return kind[2]
    if head == "fun":
        return (*kind[1], kind[2])
    if head == "box":
        return (kind[1],)
    return ()


def with_kinds(kind, within):
    """The kind that is made like this one, of other kinds within."""
    head = kind[0]
    if head == "row":
        return (head, within)
    if head == "data":
        return (head, kind[1], within)
    if head == "fun":
        return (head, within[:-1], within[-1])
    if head == "box":
        return (head, within[0])
    return kind


def are_made_alike(kind, other):
    """Whether two kinds differ at most in the kinds within them."""
    if kind[0] != other[0]:
        return False
    if kind[0] in ("data", "letter") and kind[1] != other[1]:
        return False
    return len(kinds_within(kind)) == len(kinds_within(other))


def all_kinds(kind):
    """The list of all kinds in a kind, each ahead of those within it."""
    found = []
    waiting = [kind]
    while waiting:
        one = waiting.pop()
        found.append(one)
        waiting.extend(kinds_within(one)[::-1])
    return found


def are_same(kind, other):
    waiting = [(kind, other)]
    while waiting:
        one, two = waiting.pop()
        if not are_made_alike(one, two):
            return False
        waiting.extend(list(zip(kinds_within(one), kinds_within(two))))
    return True


def folded(kind, letters, make):
    """What make tells of a kind, handed it and what it told of those within; letters are told."""
    done = []
    for one in reversed(all_kinds(kind)):
        if one[0] == "letter":
            done.append(letters[one[1]])
        else:
            at = len(done) - len(kinds_within(one))
            within = tuple(done[at:][::-1])
            del done[at:]
            done.append(make(one, within))
    return done[0]


def put_in(kind, kinds):
    """What filled returns, for a kind and kinds that are known to be right."""
    return folded(kind, kinds, with_kinds)


def is_kind(thing):
    """Whether a thing is a kind."""
    waiting = [thing]
    while waiting:
        one = waiting.pop()
        if not has_outer_form(one):
            return False
        waiting.extend(kinds_within(one))
    return True


def are_kinds(thing):
    """Whether a thing is a tuple of kinds."""
    return isinstance(thing, tuple) and all([is_kind(item) for item in thing])


def letters_in(kind):
    """The lot of the letters in a kind."""
    if not is_kind(kind):
        raise NoKind()
    return tuple(sorted({one[1] for one in all_kinds(kind) if one[0] == "letter"}))


def filled(kind, kinds):
    """The kind in which the letter k is kinds[k]."""
    letters = letters_in(kind)
    if not are_kinds(kinds) or letters and letters[-1] >= len(kinds):
        raise NoKinds()
    return put_in(kind, kinds)


def matched(kind, closed):
    """The dict of kinds for the letters by which a kind becomes a closed one, or None."""
    if not is_kind(kind) or letters_in(closed):
        raise NoKind()
    found = {}
    waiting = [(kind, closed)]
    while waiting:
        one, two = waiting.pop()
        if one[0] == "letter":
            if not are_same(found.setdefault(one[1], two), two):
                return None
        elif are_made_alike(one, two):
            waiting.extend(list(zip(kinds_within(one), kinds_within(two))))
        else:
            return None
    return found
