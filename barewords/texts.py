"""Texts: kinds and programs written as strings."""

from barewords.figures import all_written
from barewords.forms import blocks_within
from barewords.kinds import folded, letters_in


def with_texts(kind, within):
    """The text of a kind, those within it being written so."""
    head = kind[0]
    inner = ",".join(within)
    if head == "row":
        return "[" + inner + "]"
    if head == "data":
        number = "#" + str(kind[1])
        return number + "(" + inner + ")" if within else number
    if head == "fun":
        return "<" + ",".join(within[:-1]) + ":" + within[-1] + ">"
    if head == "box":
        return "!" + inner
    return head


def kind_text(kind):
    """A kind written without blanks."""
    letters = {number: "?" + str(number) for number in letters_in(kind)}
    return folded(kind, letters, with_texts)


def texts_of(kinds):
    return [kind_text(kind) for kind in kinds]


def step_words(step):
    """The words of the line of a step."""
    head, *rest = step
    if head == "way":
        number, kinds, way, places = rest
        return [head, *all_written([number, way]), ":", *texts_of(kinds), ":", *all_written(places)]
    if head in ("take", "body"):
        body, kinds, places = rest
        return [head, str(body), ":", *texts_of(kinds), ":", *all_written(places)]
    if head == "call":
        return [head, str(rest[0]), ":", *all_written(rest[1])]
    return [head, *all_written(rest[0] if head == "row" else rest)]


def end_words(end):
    """The words of the line of an end."""
    if end[0] == "look":
        return [end[0], str(end[1]), str(len(end[2]))]
    return [end[0], str(end[1])]


def block_lines(block):
    """The lines of a block, as lists of words."""
    lines = []
    waiting = [block]
    while waiting:
        steps, end = waiting.pop()
        lines.extend([step_words(step) for step in steps])
        lines.append(end_words(end))
        waiting.extend(blocks_within(end)[::-1])
    return lines


def program_text(program):
    """A program written as lines."""
    lines = []
    for letters, ways in program.book:
        lines.append(["choice", str(letters)])
        lines.extend([["form", *texts_of(way)] for way in ways])
    for letters, places, answer, block in program.bodies:
        lines.append(["new", str(letters), ":", *texts_of(places), ":", kind_text(answer)])
        lines.extend(block_lines(block))
    return "".join([" ".join(line) + "\n" for line in lines])
