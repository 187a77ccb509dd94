"""States changed by chance as the document lets them be changed, and otherwise."""

from barewords.collecting import collected
from barewords.images import image, loaded
from barewords.strangers import exchanged
from barewords.telling import open_spots, told

WORDS = (0, 1, -1, 2, 7, 100, 10 ** 12, -10 ** 39)


def scattered(chance, low=-99, high=400):
    """A placer: places drawn by chance."""
    def placer(places):
        while True:
            place = chance.randint(low, high)
            if place not in places:
                return place
    return placer


def any_word(state, chance):
    """A word that perhaps looks like a link."""
    return chance.choice([*WORDS, *[place for place, _ in state[1]]])


def open_exchanged(program, state, chance):
    spots = [spot for spot in open_spots(program, state) if chance.random() < 0.7]
    return exchanged(program, state, {spot: any_word(state, chance) for spot in spots})


def put_in(state, chance, most=4):
    """The state with further cells at places where none is."""
    pile, heap, said = state
    cells = dict(heap)
    place = scattered(chance)
    for _ in range(chance.randrange(most + 1)):
        words = tuple(any_word(state, chance) for _ in range(chance.randrange(4)))
        cells[place(tuple(cells))] = words
    return pile, tuple(sorted(cells.items())), said


def numbers_exchanged(program, state, chance):
    """The state with other numbers in some spots that are told to be numbers, and with others said."""
    pile, heap, said = state
    heads = told(program, state)

    def other(where, number, words):
        return tuple(chance.choice(WORDS) if heads.get((where, number, at)) == "num" and chance.random() < 0.3 else word
                     for at, word in enumerate(words))
    frames = tuple((body, point, other("pile", at, words)) for at, (body, point, words) in enumerate(pile))
    cells = tuple((place, other("heap", place, cell)) for place, cell in heap)
    return frames, cells, said + (7,) if chance.random() < 0.5 else said


def changed(program, state, chance):
    """The state with cells moved, put in and dropped, and with open words exchanged."""
    for _ in range(chance.randint(1, 4)):
        word = chance.randrange(4)
        if word == 0:
            state = collected(program, state, scattered(chance))
        elif word == 1:
            state = open_exchanged(program, state, chance)
        elif word == 2:
            state = put_in(state, chance)
        else:
            state = loaded(program, image(state), scattered(chance))
    return state


def with_one_other(state, chance):
    """The state with one thing in it otherwise; still of the form of a state."""
    pile, heap, said = [list(part) for part in state]
    what = chance.randrange(8)
    if what < 3 and pile:
        at = chance.randrange(len(pile))
        body, point, words = pile[at]
        words = list(words)
        if what == 0 and words:
            words[chance.randrange(len(words))] = any_word(state, chance)
        elif what == 1:
            words = words[:-1] if chance.random() < 0.5 else words + [0]
        elif chance.random() < 0.5:
            body += chance.choice([-1, 1])
        else:
            point = point[:-1] + (point[-1] + chance.choice([-1, 1]),)
        pile[at] = (body, point, tuple(words))
    elif what == 3 and pile:
        del pile[chance.randrange(len(pile))]
    elif what < 7 and heap:
        at = chance.randrange(len(heap))
        place, words = heap[at]
        words = list(words)
        if what == 4:
            del heap[at]
        elif what == 5 and words:
            words[chance.randrange(len(words))] = any_word(state, chance)
            heap[at] = (place, tuple(words))
        else:
            heap[at] = (place, tuple(words[:-1] if chance.random() < 0.5 else words + [1]))
    else:
        said = said[:-1] if said and chance.random() < 0.5 else said + [3]
    return tuple(pile), tuple(heap), tuple(said)
