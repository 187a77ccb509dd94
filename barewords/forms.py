"""The forms of books and bodies, as far as they are told without the tables."""

from barewords.kinds import are_kinds, is_kind, kinds_within
from barewords.things import are_naturals, is_between, is_natural, is_tuple

MOST_CHOICES = 6
MOST_CHOICE_LETTERS = 3
MOST_WAYS = 4
MOST_PARTS = 3
MOST_BODIES = 12
MOST_BODY_LETTERS = 4
MOST_PLACES = 5
MOST_BLOCKS_DEEP = 6
MOST_STEPS = 60
MOST_KINDS_DEEP = 8
MOST_KINDS = 40
MOST_ROW = 4
LARGEST = 10 ** 12

STEP_FORMS = {
    "num": ("number",),
    "nil": (),
    "sum": ("place", "place"),
    "less": ("place", "place"),
    "row": ("row places",),
    "part": ("place", "place"),
    "way": ("choice", "kinds", "place", "places"),
    "take": ("body", "kinds", "places"),
    "box": ("place",),
    "open": ("place",),
    "put": ("place", "place"),
    "print": ("place",),
    "body": ("body", "kinds", "places"),
    "call": ("place", "places"),
}

END_FORMS = {
    "back": ("place",),
    "if": ("place", "block", "block"),
    "look": ("place", "blocks"),
}


def letters_told(thing, size, most):
    """How many letters a choice or a body has; none if it does not tell them rightly."""
    if is_tuple(thing, size, size) and is_between(thing[0], 0, most):
        return thing[0]
    return 0


def choice_letters(book):
    return [letters_told(choice, 2, MOST_CHOICE_LETTERS) for choice in book]


def body_letters(bodies):
    return [letters_told(body, 4, MOST_BODY_LETTERS) for body in bodies]


def names_what_is(kind, letters, counts):
    """Whether the letter or the choice that a kind names is one; counts has the letters of choices."""
    if kind[0] == "letter":
        return kind[1] < letters
    if kind[0] == "data":
        return kind[1] < len(counts) and len(kind[2]) == counts[kind[1]]
    return True


def may_be_written(kind, letters, counts):
    """Whether a kind may stand in a text where there are so many letters."""
    deep = 0
    many = 0
    level = [kind]
    while level:
        deep += 1
        many += len(level)
        if deep > MOST_KINDS_DEEP or many > MOST_KINDS:
            return False
        if not all([names_what_is(one, letters, counts) for one in level]):
            return False
        level = [inner for one in level for inner in kinds_within(one)]
    return True


def is_way(thing, letters, counts):
    if not is_tuple(thing, 0, MOST_PARTS):
        return False
    return all([is_kind(part) and may_be_written(part, letters, counts) for part in thing])


def is_choice(thing, counts):
    if not is_tuple(thing, 2, 2) or not is_between(thing[0], 0, MOST_CHOICE_LETTERS):
        return False
    letters, ways = thing
    return is_tuple(ways, 1, MOST_WAYS) and all([is_way(way, letters, counts) for way in ways])


def word_has_form(word, form, ways, many):
    """Whether a word of a step or an end has its form; a block within is looked at by rows_of."""
    if form == "number":
        return is_between(word, -LARGEST, LARGEST)
    if form == "place":
        return is_natural(word)
    if form == "places":
        return are_naturals(word)
    if form == "row places":
        return are_naturals(word) and 1 <= len(word) <= MOST_ROW
    if form == "choice":
        return is_between(word, 0, len(ways) - 1)
    if form == "body":
        return is_between(word, 0, many - 1)
    if form == "kinds":
        return are_kinds(word)
    return form == "block" or isinstance(word, tuple)


def head_of(thing):
    """The word at the head of a thing, or an empty one."""
    if is_tuple(thing, 1, 5) and isinstance(thing[0], str):
        return thing[0]
    return ""


def words_have_forms(words, told, ways, many):
    if len(words) != len(told):
        return False
    return all([word_has_form(word, form, ways, many) for word, form in zip(words, told)])


def is_step(thing, ways, many):
    """Whether a thing is a step; ways has how many each choice has, many is how many bodies are."""
    told = STEP_FORMS.get(head_of(thing))
    if told is None or not words_have_forms(thing[1:], told, ways, many):
        return False
    return thing[0] != "way" or thing[3] < ways[thing[1]]


def is_end(thing, ways, many):
    """Whether a thing is an end, whatever stands where blocks within are due."""
    told = END_FORMS.get(head_of(thing))
    return told is not None and words_have_forms(thing[1:], told, ways, many)


def blocks_within(end):
    """The things that an end has as blocks within."""
    if end[0] == "if":
        return end[2:]
    if end[0] == "look":
        return end[2]
    return ()


def rows_of(block, ways, many):
    """The list of all steps of a block and of those within, or None if a form is wrong."""
    found = []
    waiting = [(block, 1)]
    while waiting:
        one, deep = waiting.pop()
        if deep > MOST_BLOCKS_DEEP or not is_tuple(one, 2, 2) or not is_tuple(one[0], 0, MOST_STEPS):
            return None
        steps, end = one
        found.extend(steps)
        if len(found) > MOST_STEPS or not is_end(end, ways, many):
            return None
        if not all([is_step(step, ways, many) for step in steps]):
            return None
        waiting.extend([(within, deep + 1) for within in blocks_within(end)])
    return found


def body_rows(body, ways, many):
    """The list of all steps of a body, or None if a form is wrong."""
    if not is_tuple(body, 4, 4) or not is_between(body[0], 0, MOST_BODY_LETTERS):
        return None
    _, places, answer, block = body
    if not is_tuple(places, 0, MOST_PLACES) or not are_kinds(places) or not is_kind(answer):
        return None
    return rows_of(block, ways, many)


def has_right_kinds(body, steps, counts, body_counts):
    """Whether the kinds in a body are as told; counts and body_counts have the letters of each."""
    letters, places, answer, _ = body
    kinds = [*places, answer]
    for step in steps:
        if step[0] in ("way", "take", "body"):
            asked = counts[step[1]] if step[0] == "way" else body_counts[step[1]]
            if len(step[2]) != asked:
                return False
            kinds.extend(step[2])
    return all([may_be_written(kind, letters, counts) for kind in kinds])


def takes_numbers_alone(body):
    letters, places, answer, _ = body
    return letters == 0 and all([kind[0] == "num" for kind in (*places, answer)])


def body_fault(book, bodies, number):
    """The word for what is not as told in a body, or None."""
    body = bodies[number]
    steps = body_rows(body, [len(ways) for _, ways in book], len(bodies))
    if steps is None:
        return "form"
    if not has_right_kinds(body, steps, choice_letters(book), body_letters(bodies)):
        return "kinds"
    if number == 0 and not takes_numbers_alone(body):
        return "first"
    return None


def form_fault(book, bodies):
    """The first part of a program whose form or kinds are not as told, or None."""
    if not is_tuple(book, 0, MOST_CHOICES):
        return ("book", -1)
    counts = choice_letters(book)
    for number, choice in enumerate(book):
        if not is_choice(choice, counts):
            return ("book", number)
    if not is_tuple(bodies, 1, MOST_BODIES):
        return ("bodies",)
    for number in range(len(bodies)):
        word = body_fault(book, bodies, number)
        if word is not None:
            return ("body", number, word)
    return None
