"""Keepers: machines that are led live, with a journal from which they are recovered."""

from barewords.collecting import Asking, check_each, collected_by, makes
from barewords.errors import BadImage, NoOver, NoRecord, NoText
from barewords.images import image, read_image
from barewords.machine import Machine, begun, comes_to_stop, state_of
from barewords.plain import check_most


class Keeper:
    """A machine that is collected ahead of makings; its journal has an image of what comes each time."""

    def __init__(self, program, inputs, each):
        state = begun(program, inputs)
        check_each(each)
        self.program = program
        self.each = each
        self.stands_at(state, [image(state)])

    def stands_at(self, state, records):
        """Begin to count at a state, with these records behind."""
        self.machine = Machine(self.program, state)
        self.records = records
        self.makings = 0
        self.is_collected = False

    def collects(self, asking):
        """Collect, if this is due ahead of the next making and has not been done."""
        if (self.makings + 1) % self.each == 0 and not self.is_collected:
            state = collected_by(self.program, state_of(self.machine), asking)
            self.machine.becomes(state)
            self.records.append(image(state))
            self.is_collected = True

    def go(self, many, placer):
        """Do at most so many steps and ends more; the numbers said by them."""
        check_most(many)
        asking = Asking(placer)
        last = self.machine.done + many
        ahead = len(self.machine.said)
        while comes_to_stop(self.machine, last):
            self.collects(asking)
            makes(self.machine, asking)
            self.makings += 1
            self.is_collected = False
        return tuple(self.machine.said[ahead:])

    def state(self):
        return state_of(self.machine)

    def is_over(self):
        return not self.machine.pile

    def steps(self):
        """How many steps and ends were done."""
        return self.machine.done

    def journal(self):
        """All records, one behind another."""
        return "".join(self.records)

    def copy(self):
        """Another keeper, that goes on apart."""
        other = unbegun(self.program, self.each)
        other.stands_at(self.state(), list(self.records))
        machine = other.machine
        machine.done = self.machine.done
        other.makings = self.makings
        other.is_collected = self.is_collected
        return other


def unbegun(program, each):
    """A keeper that is still to be told where it stands."""
    return Keeper(program, tuple([0 for _ in program.bodies[0][1]]), each)


def record_from(journal, start):
    """What may be a record, from this sign of a journal on: all up to a line that begins as its last one does."""
    last = journal.find("\nend ", start)
    close = -1 if last < 0 else journal.find("\n", last + 1)
    return journal[start:close + 1]


def state_of_record(program, record):
    """The state that a record is an image of, or None if it is no right one."""
    try:
        return read_image(program, record)
    except (BadImage, NoOver):
        return None


def right_records(program, journal):
    """The list of the right records at the front of a journal, and the state of the last one."""
    records = []
    state = None
    start = 0
    while True:
        record = record_from(journal, start)
        other = state_of_record(program, record)
        if other is None or state is not None and other[2][:len(state[2])] != state[2]:
            return (records, state)
        records.append(record)
        state = other
        start += len(record)


def recovered(program, journal, each):
    """A keeper that stands as behind the last right record of a journal, and how many signs these take."""
    if not isinstance(journal, str):
        raise NoText()
    check_each(each)
    records, state = right_records(program, journal)
    if not records:
        raise NoRecord()
    keeper = unbegun(program, each)
    keeper.stands_at(state, records)
    return (keeper, sum([len(record) for record in records]))
