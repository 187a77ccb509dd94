"""Images: states written as strings, and read."""

from barewords.collecting import collected
from barewords.errors import BadImage, NoOver
from barewords.figures import all_written, integer_in, integers_in, written
from barewords.over import takes_over

MOST_FIGURES = 4000
CHECKED_BY = 9973
NONE = "-"


def joined(numbers, sign):
    return sign.join(all_written(numbers)) if numbers else NONE


def end_line(ahead):
    """The last line of an image in which these signs are ahead of it."""
    check = sum([ord(sign) * (at + 1) for at, sign in enumerate(ahead)]) % CHECKED_BY
    return f"end {check}\n"


def image(state):
    """A state written as lines."""
    pile, heap, said = state
    lines = [["said", *all_written(said)]]
    for body, point, words in pile:
        lines.append(["frame", written(body), joined(point, "."), joined(words, ",")])
    for place, cell in heap:
        lines.append(["cell", written(place), joined(cell, ",")])
    text = "".join([" ".join(line) + "\n" for line in lines])
    return text + end_line(text)


def point_in(word):
    """The point that a word is, or None; a point always has an integer, so it is never written as none."""
    return integers_in(word.split("."), MOST_FIGURES)


def words_in(word):
    """The tuple of the words of a frame or a cell, or None."""
    return () if word == NONE else integers_in(word.split(","), MOST_FIGURES)


class Reading:
    """The lines of an image, as far as they are read."""

    def __init__(self):
        self.said = None
        self.pile = []
        self.heap = []

    def takes(self, line):
        """Whether a line is written as told, and may stand behind those that were taken."""
        word, *rest = line.split(" ")
        if self.said is None:
            self.said = integers_in(rest, MOST_FIGURES) if word == "said" else None
            return self.said is not None
        if word == "frame":
            return len(rest) == 3 and not self.heap and self.takes_frame(rest)
        return word == "cell" and len(rest) == 2 and self.takes_cell(rest)

    def takes_frame(self, rest):
        frame = (integer_in(rest[0], MOST_FIGURES), point_in(rest[1]), words_in(rest[2]))
        self.pile.append(frame)
        return None not in frame

    def takes_cell(self, rest):
        pair = (integer_in(rest[0], MOST_FIGURES), words_in(rest[1]))
        if None in pair or self.heap and self.heap[-1][0] >= pair[0]:
            return False
        self.heap.append(pair)
        return True


def state_in(text):
    """The state that an image is of, whichever program it may be for."""
    reading = Reading()
    lines = text.split("\n")
    ahead = 0
    for at, line in enumerate(lines[:-1]):
        behind = ahead + len(line) + 1
        if reading.said is not None and line.startswith("end "):
            if text[ahead:behind] != end_line(text[:ahead]):
                raise BadImage(at + 1)
            if behind < len(text):
                raise BadImage(at + 2)
            return (tuple(reading.pile), tuple(reading.heap), reading.said)
        if not reading.takes(line):
            raise BadImage(at + 1)
        ahead = behind
    raise BadImage(len(lines))


def read_image(program, text):
    """The state that an image is of, which the program takes over."""
    if not isinstance(text, str):
        raise BadImage(0)
    state = state_in(text)
    if not takes_over(program, state):
        raise NoOver()
    return state


def loaded(program, text, placer):
    """The state that an image is of, collected."""
    return collected(program, read_image(program, text), placer)
