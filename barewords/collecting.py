"""The collector: it moves the met cells, rewrites told links alone, and drops all else."""

from barewords.errors import NoNumber
from barewords.finding import LINK_HEADS, found, told_of
from barewords.machine import Machine, begun, comes_between, comes_to_stop, do_next, state_of, told_place
from barewords.plain import check_most
from barewords.states import is_state, with_words
from barewords.things import is_between

MOST_EACH = 1000


class Asking:
    """A placer that is asked for places, and how many it told."""

    def __init__(self, placer):
        self.placer = placer
        self.many = 0

    def tells(self, places, taken):
        """A place that is not taken; places are those that are, ascending, taken has them as keys."""
        place = told_place(self.placer, places, taken, self.many)
        self.many += 1
        return place


def makes(machine, asking):
    """Do the next step, which makes a cell."""
    do_next(machine, asking.tells(machine.places, machine.cells))


def collected_by(program, state, asking):
    """What collected returns, for a placer that may have told places ahead."""
    finding = found(program, state, None)
    new = {}
    old = {}
    places = []
    for place in sorted(finding.cells):
        told = asking.tells(places, old)
        comes_between(places, told)
        new[place] = told
        old[told] = place
    links = [spot for spot, head in told_of(finding).items() if head in LINK_HEADS]
    pile, heap, said = with_words(state, {spot: new[finding.word_at(spot)] for spot in links})
    cells = {place: cell for place, cell in heap}
    return (pile, tuple([(place, cells[old[place]]) for place in places]), said)


def collected(program, state, placer):
    """The state in which just the met cells are, at places that the placer tells."""
    return collected_by(program, state, Asking(placer))


def check_each(each):
    """Raise NoNumber unless it may be collected ahead of each making whose number is a multiple of this."""
    if not is_between(each, 1, MOST_EACH):
        raise NoNumber()


def ran_collecting(program, inputs, placer, most, each):
    """The state behind a run with collectings, and for each of them how many cells were ahead and behind."""
    machine = Machine(program, begun(program, inputs))
    check_most(most)
    check_each(each)
    asking = Asking(placer)
    counts = []
    makings = 0
    while comes_to_stop(machine, most):
        makings += 1
        if makings % each == 0:
            ahead = len(machine.places)
            machine.becomes(collected_by(program, state_of(machine), asking))
            counts.append((ahead, len(machine.places)))
        makes(machine, asking)
    return (state_of(machine), tuple(counts))


def have_like_frames(state, other):
    """Whether frames are at the same points, with as many words, and the same was said."""
    if len(state[0]) != len(other[0]) or state[2] != other[2]:
        return False
    return all([
        one[:2] == two[:2] and len(one[2]) == len(two[2]) for one, two in zip(state[0], other[0])])


class Comparing:
    """What was found of a state, beside another one whose frames are like its."""

    def __init__(self, finding, other):
        self.finding = finding
        self.other = other
        self.cells = {place: cell for place, cell in other[1]}
        self.new = {}
        self.old = {}
        self.spots = {place: [] for place in finding.cells}
        self.waiting = []
        for spot in finding.spots:
            if spot[0] == "pile":
                self.waiting.append(spot)
            else:
                self.spots[spot[1]].append(spot)

    def other_word(self, spot):
        where, number, at = spot
        return self.other[0][number][2][at] if where == "pile" else self.cells[self.new[number]][at]

    def are_links(self, word, other, head):
        """Whether a word and another one may be the places of a cell, here and there."""
        if word in self.new or other in self.old:
            return self.new.get(word) == other
        self.new[word] = other
        self.old[other] = word
        self.waiting.extend(self.spots[word])
        one = self.finding.heap[word]
        two = self.cells.get(other)
        if two is None or len(one) != len(two):
            return False
        return head not in ("data", "fun") or one[0] == two[0]

    def is_like_at(self, spot):
        head = self.finding.head_at(spot)
        word = self.finding.word_at(spot)
        if head == "num":
            return word == self.other_word(spot)
        return head not in LINK_HEADS or self.are_links(word, self.other_word(spot), head)


def is_like(program, state, thing):
    """Whether a thing is a state like this one."""
    if not is_state(thing) or not have_like_frames(state, thing):
        return False
    comparing = Comparing(found(program, state, None), thing)
    while comparing.waiting:
        if not comparing.is_like_at(comparing.waiting.pop()):
            return False
    return True
