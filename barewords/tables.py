"""The tables of bodies: of what kinds the places are at each point."""

from barewords.errors import BadProgram
from barewords.forms import blocks_within
from barewords.kinds import all_kinds, are_same, put_in

NUM = ("num",)
NIL = ("nil",)
MOST_KINDS_IN_PLACE = 400
MOST_LEFT = 3


def all_put_in(kinds, letters):
    """The tuple of kinds with these kinds put in for their letters."""
    return tuple([put_in(kind, letters) for kind in kinds])


def are_there(table, places, kinds):
    """Whether all these places are there, one for each of these kinds, and of it."""
    if len(places) != len(kinds):
        return False
    return all([at < len(table) and are_same(table[at], kind) for at, kind in zip(places, kinds)])


def there_with(table, place, head):
    """The kind of a place, or None if it is not there with this head."""
    if place < len(table) and table[place][0] == head:
        return table[place]
    return None


def num_kind(step, table, book, bodies):
    return NUM


def nil_kind(step, table, book, bodies):
    return NIL


def sum_kind(step, table, book, bodies):
    return NUM if are_there(table, step[1:], (NUM, NUM)) else None


def row_kind(step, table, book, bodies):
    if max(step[1]) >= len(table):
        return None
    return ("row", tuple([table[place] for place in step[1]]))


def part_kind(step, table, book, bodies):
    _, place, at = step
    kind = there_with(table, place, "row")
    if kind is None or at >= len(kind[1]):
        return None
    return kind[1][at]


def way_kind(step, table, book, bodies):
    _, number, kinds, way, places = step
    parts = book[number][1][way]
    return ("data", number, kinds) if are_there(table, places, all_put_in(parts, kinds)) else None


def take_kind(step, table, book, bodies):
    _, body, kinds, places = step
    asked = all_put_in(bodies[body][1], kinds)
    taken = asked[:len(places)]
    left = asked[len(places):]
    if not 1 <= len(left) <= MOST_LEFT or not are_there(table, places, taken):
        return None
    return ("fun", left, put_in(bodies[body][2], kinds))


def box_kind(step, table, book, bodies):
    return ("box", table[step[1]]) if step[1] < len(table) else None


def open_kind(step, table, book, bodies):
    kind = there_with(table, step[1], "box")
    return None if kind is None else kind[1]


def put_kind(step, table, book, bodies):
    kind = there_with(table, step[1], "box")
    return NIL if kind is not None and are_there(table, step[2:], kind[1:]) else None


def print_kind(step, table, book, bodies):
    return NIL if are_there(table, step[1:], (NUM,)) else None


def body_kind(step, table, book, bodies):
    _, body, kinds, places = step
    if not are_there(table, places, all_put_in(bodies[body][1], kinds)):
        return None
    return put_in(bodies[body][2], kinds)


def call_kind(step, table, book, bodies):
    kind = there_with(table, step[1], "fun")
    return kind[2] if kind is not None and are_there(table, step[2], kind[1]) else None


STEP_KINDS = {
    "num": num_kind,
    "nil": nil_kind,
    "sum": sum_kind,
    "less": sum_kind,
    "row": row_kind,
    "part": part_kind,
    "way": way_kind,
    "take": take_kind,
    "box": box_kind,
    "open": open_kind,
    "put": put_kind,
    "print": print_kind,
    "body": body_kind,
    "call": call_kind,
}


def is_too_great(kind):
    return len(all_kinds(kind)) > MOST_KINDS_IN_PLACE


def made_kind(step, table, book, bodies):
    """The kind of the place that a step makes, or None if the step cannot stand there."""
    kind_of = STEP_KINDS[step[0]]
    kind = kind_of(step, table, book, bodies)
    return None if kind is None or is_too_great(kind) else kind


def come_ahead(end, table, book, answer):
    """For each block within an end the kinds that come ahead, or None if it cannot stand there."""
    if end[0] == "back":
        return [] if are_there(table, end[1:], (answer,)) else None
    if end[0] == "if":
        return [(), ()] if are_there(table, end[1:2], (NUM,)) else None
    kind = there_with(table, end[1], "data")
    if kind is None or len(end[2]) != len(book[kind[1]][1]):
        return None
    ahead = [all_put_in(parts, kind[2]) for parts in book[kind[1]][1]]
    if any([is_too_great(part) for parts in ahead for part in parts]):
        return None
    return ahead


def rows_and_tables(book, bodies, number):
    """The dict from the points of a body, ascending, to what stands there and the table."""
    _, places, answer, block = bodies[number]
    found = {}
    waiting = [((), block, places)]
    while waiting:
        way_there, (steps, end), table = waiting.pop()
        for at, step in enumerate(steps):
            point = (*way_there, at)
            found[point] = (step, table)
            kind = made_kind(step, table, book, bodies)
            if kind is None:
                raise BadProgram(("step", number, point))
            table = (*table, kind)
        point = (*way_there, len(steps))
        found[point] = (end, table)
        ahead = come_ahead(end, table, book, answer)
        if ahead is None:
            raise BadProgram(("step", number, point))
        blocks = blocks_within(end)
        within = [((*point, at), blocks[at], table + kinds) for at, kinds in enumerate(ahead)]
        waiting.extend(within[::-1])
    return found
