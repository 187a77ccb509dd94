"""Open words exchanged, collectors of strangers, and what others would keep."""

from barewords.collecting import Asking, is_like, makes
from barewords.errors import NoKinding, NoWords
from barewords.finding import LINK_HEADS
from barewords.kindings import found_by
from barewords.machine import Machine, begun, comes_to_stop, state_of
from barewords.plain import check_most
from barewords.states import with_words
from barewords.telling import met, open_spots
from barewords.things import has_spot_form, is_integer


def exchanged(program, state, words):
    """The state with other words in open spots; words is a dict from these."""
    if not isinstance(words, dict):
        raise NoWords()
    there = {spot: True for spot in open_spots(program, state)}
    for spot, word in words.items():
        if not has_spot_form(spot) or spot not in there or not is_integer(word):
            raise NoWords()
    return with_words(state, words)


def judged(collector, program, inputs, placer, most):
    """Whether all that a collector returns ahead of makings is like what it is handed."""
    machine = Machine(program, begun(program, inputs))
    check_most(most)
    asking = Asking(placer)
    many = 0
    while comes_to_stop(machine, most):
        state = state_of(machine)
        other = collector(program, state)
        if not is_like(program, state, other):
            return ("unlike", many)
        many += 1
        machine.becomes(other)
        makes(machine, asking)
    return ("right", state_of(machine))


def come_to(first, links):
    """The lot of the places that are come to from the first ones; links has those that each leads to."""
    found = {}
    waiting = list(first)
    while waiting:
        place = waiting.pop()
        if place not in found:
            found[place] = True
            waiting.extend(links.get(place, ()))
    return tuple(sorted(found))


def by_looks(state):
    """The lot of the cells that are come to if all that looks like a link is one."""
    pile, heap, _ = state
    places = {place: True for place, _ in heap}
    links = {place: [word for word in cell if word in places] for place, cell in heap}
    return come_to([word for _, _, words in pile for word in words if word in places], links)


def by_links(program, state, kinding):
    """The lot of the cells that are come to along the links that a kinding tells."""
    finding = found_by(program, state, kinding)
    if finding is None:
        raise NoKinding()
    first = []
    links = {}
    for spot in finding.spots:
        if finding.head_at(spot) in LINK_HEADS:
            words = first if spot[0] == "pile" else links.setdefault(spot[1], [])
            words.append(finding.word_at(spot))
    return come_to(first, links)


def ran_keeping(program, inputs, placer, most):
    """For each making of a run how many cells are there ahead of it, how many look linked, how many are met."""
    machine = Machine(program, begun(program, inputs))
    check_most(most)
    asking = Asking(placer)
    found = []
    while comes_to_stop(machine, most):
        state = state_of(machine)
        found.append((len(state[1]), len(by_looks(state)), len(met(program, state))))
        makes(machine, asking)
    return tuple(found)
