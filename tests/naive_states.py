"""What the document says of collectors, likeness, strangers, exchanged programs and images, in the shortest way."""

import re

from naive_telling import LINKS, Guess, Wrong, naive_blank, naive_is_kinding, row_and_table, spot_heads


def word_of(state, spot):
    where, number, at = spot
    return state[0][number][2][at] if where == "pile" else dict(state[1])[number][at]


def naive_collected(program, state, placer):
    guess, new = Guess(program, state), {}
    for place in sorted(guess.cells):
        new[place] = placer(tuple(sorted(new.values())))
    heads = guess.heads()

    def moved(where, number, words):
        return tuple(new[word] if heads.get((where, number, at)) in LINKS else word for at, word in enumerate(words))
    pile = tuple((body, point, moved("pile", at, words)) for at, (body, point, words) in enumerate(state[0]))
    cells = dict(state[1])
    return pile, tuple(sorted((new[place], moved("heap", place, cells[place])) for place in new)), state[2]


def state_form(thing):
    def ints(one):
        return type(one) is tuple and all(type(item) is int for item in one)
    if type(thing) is not tuple or len(thing) != 3 or not all(type(part) is tuple for part in thing):
        return False
    pile, heap, said = thing
    if not all(type(frame) is tuple and len(frame) == 3 and ints(frame[:1]) and ints(frame[1]) and ints(frame[2])
               for frame in pile):
        return False
    if not all(type(pair) is tuple and len(pair) == 2 and ints(pair[:1]) and ints(pair[1]) for pair in heap):
        return False
    places = [place for place, _ in heap]
    return places == sorted(set(places)) and ints(said)


def naive_is_like(program, state, thing):
    """Told links tell the new places; they are followed again and again until no place is new."""
    if not state_form(thing) or len(thing[0]) != len(state[0]) or thing[2] != state[2]:
        return False
    if any(one[:2] != two[:2] or len(one[2]) != len(two[2]) for one, two in zip(state[0], thing[0])):
        return False
    guess = Guess(program, state)
    heads, cells, others, new = guess.heads(), dict(state[1]), dict(thing[1]), {}
    for _ in range(len(guess.cells) + 1):
        for (where, number, at), head in heads.items():
            if head in LINKS and (where == "pile" or number in new):
                other = thing[0][number][2][at] if where == "pile" else others[new[number]][at]
                word = word_of(state, (where, number, at))
                if new.setdefault(word, other) != other or other not in others:
                    return False
                if len(cells[word]) != len(others[other]):
                    return False
    if len(set(new.values())) != len(new) or set(new) != set(guess.cells):
        return False
    for place, (kind, _) in guess.cells.items():
        if guess.shallow(kind)[0] in ("data", "fun") and cells[place][0] != others[new[place]][0]:
            return False
    return all(word_of(state, spot) == (
        thing[0][spot[1]][2][spot[2]] if spot[0] == "pile" else others[new[spot[1]]][spot[2]])
        for spot, head in heads.items() if head == "num")


def reached(state, follows):
    """The places of cells come to by the words at spots that pass a test."""
    cells, found, ahead = dict(state[1]), set(), None
    while ahead != found:
        ahead = set(found)
        spots = [("pile", number, at) for number, frame in enumerate(state[0]) for at in range(len(frame[2]))]
        spots += [("heap", place, at) for place in found for at in range(len(cells[place]))]
        found |= {word_of(state, spot) for spot in spots if word_of(state, spot) in cells and follows(spot)}
    return tuple(sorted(found))


def naive_by_looks(state):
    return reached(state, lambda spot: True)


def naive_by_links(program, state, kinding):
    heads = spot_heads(program, state, kinding)
    return reached(state, lambda spot: heads.get(spot) in LINKS)


def naive_fault(program, state):
    pile = state[0]
    for number, (body, point, words) in enumerate(pile):
        if not 0 <= body < len(program.bodies) or number == 0 and body:
            return ("frame", number)
        if point not in naive_points(program.bodies[body][3]):
            return ("frame", number)
        row, table = row_and_table(program, body, point)
        if len(words) != len(table) or number + 1 < len(pile) and row[0] not in ("body", "call"):
            return ("frame", number)
    try:
        Guess(program, state)
        kinding = naive_blank(program, state)
        # A tie that came to be while spots were followed shows where the kinds are looked at once more.
        return None if naive_is_kinding(program, state, kinding) else ("kinds",)
    except (Wrong, IndexError, RecursionError):
        return ("kinds",)


def naive_points(block, ahead=()):
    steps, end = block
    found = [ahead + (at,) for at in range(len(steps) + 1)]
    inner = {"back": lambda: (), "if": lambda: end[2:], "look": lambda: end[2]}[end[0]]()
    for at, one in enumerate(inner):
        found += naive_points(one, found[len(steps)] + (at,))
    return found


def naive_image(state):
    pile, heap, said = state
    text = "said" + "".join(f" {number}" for number in said) + "\n"
    for body, point, words in pile:
        text += f"frame {body} {'.'.join(map(str, point))} {','.join(map(str, words)) or '-'}\n"
    for place, words in heap:
        text += f"cell {place} {','.join(map(str, words)) or '-'}\n"
    return text + naive_end(text)


def naive_end(text):
    check = 0
    for place in range(1, len(text) + 1):
        check += place * ord(text[place - 1])
    return f"end {check % 9973}\n"


NUMBER = r"(?:0|-?[1-9][0-9]{0,3999})"
SAID = re.compile(rf"said((?: {NUMBER})*)")
FRAME = re.compile(rf"frame ({NUMBER}) ({NUMBER}(?:\.{NUMBER})*) (-|{NUMBER}(?:,{NUMBER})*)")
CELL = re.compile(rf"cell ({NUMBER}) (-|{NUMBER}(?:,{NUMBER})*)")


def naive_read(text):
    """The pair of a state and None, or of None and the line that BadImage names."""
    def words(word):
        return () if word == "-" else tuple(map(int, word.split(",")))
    said, pile, heap, ahead = None, (), (), ""
    lines = text.split("\n")[:-1]
    for at, line in enumerate(lines, 1):
        frame, cell = FRAME.fullmatch(line), CELL.fullmatch(line)
        if at == 1:
            if not SAID.fullmatch(line):
                return None, 1
            said = tuple(map(int, line.split(" ")[1:]))
        elif frame and not heap:
            pile += ((int(frame[1]), tuple(map(int, frame[2].split("."))), words(frame[3])),)
        elif cell and (not heap or heap[-1][0] < int(cell[1])):
            heap += ((int(cell[1]), words(cell[2])),)
        elif line + "\n" == naive_end(ahead):
            return ((pile, heap, said), None) if ahead + line + "\n" == text else (None, at + 1)
        else:
            return None, at
        ahead += line + "\n"
    return None, len(lines) + 1


KIND = re.compile(r"(num|nil)|\?(0|[1-9][0-9]{0,12})|([!#\[<])")


def naive_kind(text, deep=1):
    """The pair of a kind at the front of a text and what stands behind it; ValueError if there is none."""
    found = KIND.match(text)
    if not found or deep > 20:
        raise ValueError
    rest = text[found.end():]
    if found[1]:
        return (found[1],), rest
    if found[2]:
        return ("letter", int(found[2])), rest
    if found[3] == "!":
        kind, rest = naive_kind(rest, deep + 1)
        return ("box", kind), rest
    if found[3] == "#":
        number = re.match(r"(0|[1-9][0-9]{0,12})(?![0-9])(\(?)", rest)
        if not number:
            raise ValueError
        kinds, rest = naive_kinds(rest[number.end():], ")", deep) if number[2] else ((), rest[number.end():])
        return ("data", int(number[1]), kinds), rest
    kinds, rest = naive_kinds(rest, "]" if found[3] == "[" else ":", deep)
    if len(kinds) > (4 if found[3] == "[" else 3):
        raise ValueError
    if found[3] == "[":
        return ("row", kinds), rest
    kind, rest = naive_kind(rest, deep + 1)
    if rest[:1] != ">":
        raise ValueError
    return ("fun", kinds, kind), rest[1:]


def naive_kinds(text, close, deep):
    kinds = ()
    while True:
        kind, text = naive_kind(text, deep + 1)
        kinds += (kind,)
        if text[:1] == close:
            return kinds, text[1:]
        if text[:1] != ",":
            raise ValueError
        text = text[1:]


def whole_kind(text):
    """The kind that a text is of, or None."""
    try:
        kind, rest = naive_kind(text)
    except ValueError:
        return None
    return kind if rest == "" else None
