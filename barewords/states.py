"""States as they are written: whether a thing is one, and one with other words."""

from barewords.things import are_integers, is_integer, is_tuple


def is_frame(thing):
    if not is_tuple(thing, 3, 3):
        return False
    body, point, words = thing
    return is_integer(body) and are_integers(point) and are_integers(words)


def is_heap(thing):
    """Whether a thing is an ascending tuple of pairs of unlike integers and tuples of integers."""
    if not isinstance(thing, tuple):
        return False
    for pair in thing:
        if not is_tuple(pair, 2, 2) or not is_integer(pair[0]) or not are_integers(pair[1]):
            return False
    return all([low[0] < high[0] for low, high in zip(thing, thing[1:])])


def is_state(thing):
    """Whether a thing has the form of a state."""
    if not is_tuple(thing, 3, 3):
        return False
    pile, heap, said = thing
    if not isinstance(pile, tuple) or not all([is_frame(frame) for frame in pile]):
        return False
    return is_heap(heap) and are_integers(said)


def with_words(state, words):
    """The state with other words in spots; words is a dict from these spots."""
    pile, heap, said = state
    frames = []
    for number, (body, point, those) in enumerate(pile):
        frames.append((body, point, exchanged_at(("pile", number), those, words)))
    cells = [(place, exchanged_at(("heap", place), cell, words)) for place, cell in heap]
    return (tuple(frames), tuple(cells), said)


def exchanged_at(where, those, words):
    """The words of a frame or a cell, with others in its spots."""
    return tuple([words.get((*where, at), word) for at, word in enumerate(those)])
