"""The desk: programs kept under names, and a state that is looked at, by lines."""

from barewords.errors import NoForm, NoName, NothingChosen, NothingDone
from barewords.figures import all_written, integer_in, natural_in
from barewords.images import image
from barewords.machine import begun, ran
from barewords.over import takes_over
from barewords.plain import plain
from barewords.reading import read_program
from barewords.telling import met, open_spots, told

LETTERS = "abcdefghijklmnopqrstuvwxyz"
MOST_LETTERS = 8
MOST_FIGURES = 9
FIRST_PLACE = 100
NONE = "none"

FORMS = {
    "drop": ("name",),
    "names": (),
    "undo": (),
    "plain": ("name", "number", "inputs"),
    "at": ("name", "number", "inputs"),
    "told": (),
    "met": (),
    "image": (),
    "over": ("name",),
    "on": ("number",),
}


def least_free(places):
    """A placer: the least place from 100 on, of those that are behind all that it told."""
    return FIRST_PLACE + len(places)


def is_name(word):
    return 1 <= len(word) <= MOST_LETTERS and all([sign in LETTERS for sign in word])


def input_in(word):
    """The integer that a word is, which may have `-` ahead, or None."""
    return 0 if word == "-0" else integer_in(word, MOST_FIGURES)


def inputs_in(words):
    inputs = [input_in(word) for word in words]
    return None if None in inputs else tuple(inputs)


def program_words(rest):
    """The name and the text of a program line, or None."""
    name, _, text = rest.partition(" ")
    return [name, text.replace("|", "\n")] if is_name(name) and text != "" else None


def rest_in(words, forms):
    """The list of what the words behind the first one are, or None if they have not these forms."""
    found = []
    for at, form in enumerate(forms):
        if form == "inputs":
            found.append(inputs_in(words[at:]))
        elif at == len(words):
            return None
        elif form == "number":
            found.append(natural_in(words[at], MOST_FIGURES))
        else:
            found.append(words[at] if is_name(words[at]) else None)
    if None in found or len(words) > len(forms) and "inputs" not in forms:
        return None
    return found


def line_in(line):
    """The first word of a line and the list of what is behind it."""
    if not isinstance(line, str) or "\n" in line:
        raise NoForm()
    head, blank, rest = line.partition(" ")
    if head == "program":
        found = program_words(rest)
    elif head in FORMS:
        found = rest_in(rest.split(" ") if blank else [], FORMS[head])
    else:
        found = None
    if found is None:
        raise NoForm()
    return (head, found)


def joined(numbers):
    return " ".join(all_written(numbers)) if numbers else NONE


def run_text(said, is_over):
    return joined(said) + (" over" if is_over else " on")


def do_program(desk, rest):
    name, text = rest
    desk.keeps(name, read_program(text))
    return "ok"


def do_drop(desk, rest):
    desk.named(rest[0])
    desk.keeps(rest[0], None)
    return "ok"


def do_names(desk, rest):
    return " ".join(sorted(desk.programs)) if desk.programs else NONE


def do_undo(desk, rest):
    desk.takes_back()
    return "ok"


def do_plain(desk, rest):
    name, most, inputs = rest
    said, is_over = plain(desk.named(name), inputs, most)
    return run_text(said, is_over)


def do_at(desk, rest):
    name, steps, inputs = rest
    program = desk.named(name)
    state = ran(program, begun(program, inputs), least_free, steps)
    desk.chosen = (program, state)
    return "ok"


def do_told(desk, rest):
    program, state = desk.what_is_chosen()
    return " ".join(all_written([len(told(program, state)), len(open_spots(program, state))]))


def do_met(desk, rest):
    program, state = desk.what_is_chosen()
    return joined(met(program, state))


def do_image(desk, rest):
    _, state = desk.what_is_chosen()
    return image(state).replace("\n", "|")


def do_over(desk, rest):
    program = desk.named(rest[0])
    _, state = desk.what_is_chosen()
    return "yes" if takes_over(program, state) else "no"


def do_on(desk, rest):
    program, state = desk.what_is_chosen()
    pile, _, said = ran(program, state, least_free, rest[0])
    return run_text(said, not pile)


ACTIONS = {
    "program": do_program,
    "drop": do_drop,
    "names": do_names,
    "undo": do_undo,
    "plain": do_plain,
    "at": do_at,
    "told": do_told,
    "met": do_met,
    "image": do_image,
    "over": do_over,
    "on": do_on,
}


class Desk:
    """Programs under names, the state that was chosen, and what can be taken back."""

    def __init__(self):
        self.programs = {}
        self.done = []
        self.chosen = None

    def named(self, name):
        """The program that is kept under a name."""
        if name not in self.programs:
            raise NoName(name)
        return self.programs[name]

    def what_is_chosen(self):
        """The pair of a program and a state of it."""
        if self.chosen is None:
            raise NothingChosen()
        return self.chosen

    def has(self, name, program):
        """Have a program under a name, or nothing if it is None."""
        self.programs.pop(name, None)
        if program is not None:
            self.programs[name] = program

    def keeps(self, name, program):
        """Have a program under a name, or nothing, so that this can be taken back."""
        self.done.append((name, self.programs.get(name)))
        self.has(name, program)

    def takes_back(self):
        if not self.done:
            raise NothingDone()
        name, program = self.done.pop()
        self.has(name, program)

    def tell(self, line):
        """Do one line, and return what it tells."""
        head, rest = line_in(line)
        action = ACTIONS[head]
        return action(self, rest)

    def undoable(self):
        """How many lines can be taken back."""
        return len(self.done)
