"""Programs: a book of choices and bodies, with the points of these and their tables."""

from barewords.errors import BadProgram, NoBody, NoPoint
from barewords.forms import form_fault
from barewords.tables import rows_and_tables
from barewords.things import are_integers, is_between


class Program:
    """A program that has been checked; it never changes."""

    def __init__(self, book, bodies):
        fault = form_fault(book, bodies)
        if fault is not None:
            raise BadProgram(fault)
        self.book = book
        self.bodies = bodies
        # Each run asks for tables again and again, so they are worked out once.
        self.tables = tuple([rows_and_tables(book, bodies, number) for number in range(len(bodies))])

    def __eq__(self, other):
        return isinstance(other, Program) and self.book == other.book and self.bodies == other.bodies


def tables_of(program, body):
    """The dict that rows_and_tables tells of a body."""
    if not is_between(body, 0, len(program.bodies) - 1):
        raise NoBody()
    return program.tables[body]


def row_and_table(program, body, point):
    tables = tables_of(program, body)
    # A flag as a key would be found as the number that it is like.
    if not are_integers(point) or point not in tables:
        raise NoPoint()
    return tables[point]


def points(program, body):
    """The ascending list of the points of a body."""
    return list(tables_of(program, body))


def row_at(program, body, point):
    """The step or the end that stands at a point."""
    return row_and_table(program, body, point)[0]


def kinds_at(program, body, point):
    """The kinds of all places that are there at a point."""
    return row_and_table(program, body, point)[1]


def are_inputs(program, thing):
    """Whether a thing is what body 0 may be handed."""
    return are_integers(thing) and len(thing) == len(program.bodies[0][1])
