"""Telling: which words of a state are a number or a link in every kinding, and two kindings of it."""

from barewords.errors import TooMany
from barewords.finding import found, told_of
from barewords.kinds import with_kinds

NIL = ("nil",)
MOST_KINDS = 20000
MOST_DEEP = 25


def met(program, state):
    """The places of the cells to which every kinding gives a kind, ascending."""
    return tuple(sorted(found(program, state, None).cells))


def told(program, state):
    """The dict from all told spots to their heads."""
    return told_of(found(program, state, None))


def open_spots(program, state):
    """The ascending list of the spots that are not told."""
    finding = found(program, state, None)
    heads = told_of(finding)
    return sorted([spot for spot in finding.spots if spot not in heads])


def sized(web, knot, sizes):
    """How many kinds are in the kind of a knot, and how deep it is; sizes keeps what was told."""
    waiting = [web.top(knot)]
    while waiting:
        top = waiting[-1]
        within = [web.top(inner) for inner in web.within[top]]
        missing = [inner for inner in within if inner not in sizes]
        if missing:
            waiting.extend(missing)
        else:
            many = 1 + sum([sizes[inner][0] for inner in within])
            deep = 1 + max([sizes[inner][1] for inner in within], default=0)
            # A kind may have more kinds in it than a number could well be counted up to.
            sizes[top] = (min(many, MOST_KINDS + 1), deep)
            waiting.pop()
    return sizes[web.top(knot)]


def check_sizes(web, knots):
    """Raise TooMany if the kinds of these knots are too many, or too deep."""
    sizes = {}
    many = 0
    for knot in knots:
        inner, deep = sized(web, knot, sizes)
        many += inner
        if many > MOST_KINDS or deep > MOST_DEEP:
            raise TooMany(MOST_KINDS)


def all_tops(web, knot):
    """The list of the top knots for all kinds in the kind of a knot, each ahead of those within it."""
    tops = []
    waiting = [knot]
    while waiting:
        top = web.top(waiting.pop())
        tops.append(top)
        waiting.extend(web.within[top][::-1])
    return tops


def kind_of(web, knot, names):
    """The kind of a knot; names has kinds for unknown ones, or is None if these are nothing."""
    tops = all_tops(web, knot)
    for top in tops:
        if names is not None and web.kinds[top] is None and top not in names:
            names[top] = ("letter", len(names))
    done = []
    for top in reversed(tops):
        kind = web.kinds[top]
        if kind is None:
            done.append(NIL if names is None else names[top])
        else:
            at = len(done) - len(web.within[top])
            within = tuple(done[at:][::-1])
            del done[at:]
            done.append(with_kinds(kind, within))
    return done[0]


def kinds_of(web, knots, names):
    return tuple([kind_of(web, knot, names) for knot in knots])


def kinding_of(program, state, names):
    """The pair of kinds for the letters of frames, and for met cells; names is as in kind_of."""
    finding = found(program, state, None)
    web = finding.web
    cells = [(place, *finding.cells[place]) for place in sorted(finding.cells)]
    knots = [knot for letters in finding.letters for knot in letters]
    for _, knot, beside in cells:
        knots.extend([knot, *beside])
    check_sizes(web, knots)
    frames = tuple([kinds_of(web, letters, names) for letters in finding.letters])
    kinds = {}
    for place, knot, beside in cells:
        kind = kind_of(web, knot, names)
        kinds[place] = (kind, kinds_of(web, beside, names))
    return (frames, kinds)


def blank(program, state):
    """The kinding of just the met cells in which as much as can be is nothing."""
    return kinding_of(program, state, None)


def general(program, state):
    """The most general kinding of just the met cells; its letters are what kindings may choose."""
    return kinding_of(program, state, {})
