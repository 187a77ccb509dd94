"""Integers written in decimal figures, and read."""

# Python itself does not write, nor read, a number of some thousands of figures at once.
CHUNK = 10 ** 64
CHUNK_FIGURES = 64


def written(number):
    """An integer in figures, `-` ahead if it is below 0, of any length."""
    if number < 0:
        return "-" + written(-number)
    parts = []
    while number >= CHUNK:
        number, rest = divmod(number, CHUNK)
        parts.append(str(rest).zfill(CHUNK_FIGURES))
    parts.append(str(number))
    return "".join(parts[::-1])


def all_written(numbers):
    """The list of integers in figures."""
    return [written(number) for number in numbers]


def natural_in(word, most):
    """The integer from 0 on that a word is, in so many figures at most, without needless zeros; or None."""
    if len(word) > most or not word.isascii() or not word.isdigit() or word[0] == "0" and len(word) > 1:
        return None
    return int(word)


def integer_in(word, most):
    """The integer that a word is, `-` ahead if it is below 0; or None."""
    if word[:1] != "-":
        return natural_in(word, most)
    number = natural_in(word[1:], most)
    return -number if number else None


def naturals_in(words, most):
    """The tuple of the integers from 0 on that words are, or None."""
    numbers = [natural_in(word, most) for word in words]
    return None if None in numbers else tuple(numbers)


def integers_in(words, most):
    """The tuple of the integers that words are, or None."""
    numbers = [integer_in(word, most) for word in words]
    return None if None in numbers else tuple(numbers)
