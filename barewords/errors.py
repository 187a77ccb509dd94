"""The errors that the functions of this package raise."""


class WordsError(ValueError):
    """What all errors of this package are."""


class NoKind(WordsError):
    """This is no kind."""

    def __init__(self):
        WordsError.__init__(self)


class NoKinds(WordsError):
    """This is no tuple of kinds, or too short."""

    def __init__(self):
        WordsError.__init__(self)


class BadProgram(WordsError):
    """A part of this program is not as told."""

    def __init__(self, part):
        self.part = part


class NoBody(WordsError):
    """This is no number of a body."""

    def __init__(self):
        WordsError.__init__(self)


class NoPoint(WordsError):
    """This is no point of the body."""

    def __init__(self):
        WordsError.__init__(self)


class NoInputs(WordsError):
    """These are no inputs of the program."""

    def __init__(self):
        WordsError.__init__(self)


class NoNumber(WordsError):
    """This is no integer within the bounds."""

    def __init__(self):
        WordsError.__init__(self)


class IsOver(WordsError):
    """The state is over."""

    def __init__(self):
        WordsError.__init__(self)


class NoPlace(WordsError):
    """A new cell cannot come to this place."""

    def __init__(self):
        WordsError.__init__(self)


class BadPlacer(WordsError):
    """The placer returned what is no free place."""

    def __init__(self, number):
        self.number = number


class TooMany(WordsError):
    """There are more than can be told."""

    def __init__(self, most):
        self.most = most


class NoLot(WordsError):
    """This is no lot of sources."""

    def __init__(self):
        WordsError.__init__(self)


class NoSpot(WordsError):
    """This is no told spot."""

    def __init__(self):
        WordsError.__init__(self)


class NoSource(WordsError):
    """This is no source of the state."""

    def __init__(self):
        WordsError.__init__(self)


class NoWords(WordsError):
    """These are no words for open spots."""

    def __init__(self):
        WordsError.__init__(self)


class NoKinding(WordsError):
    """This is no kinding of the state."""

    def __init__(self):
        WordsError.__init__(self)


class NoOver(WordsError):
    """The program does not take the state over."""

    def __init__(self):
        WordsError.__init__(self)


class BadImage(WordsError):
    """A line of this image is not as told."""

    def __init__(self, line):
        self.line = line


class NoText(WordsError):
    """This is no string."""

    def __init__(self):
        WordsError.__init__(self)


class NoRecord(WordsError):
    """The journal has no right record."""

    def __init__(self):
        WordsError.__init__(self)


class BadText(WordsError):
    """A line of this text is not as told."""

    def __init__(self, line):
        self.line = line


class NothingDone(WordsError):
    """There is nothing to take back."""

    def __init__(self):
        WordsError.__init__(self)


class NoForm(WordsError):
    """The line has none of the forms."""

    def __init__(self):
        WordsError.__init__(self)


class NoName(WordsError):
    """Nothing is kept under this name."""

    def __init__(self, name):
        self.name = name


class NothingChosen(WordsError):
    """No state is chosen."""

    def __init__(self):
        WordsError.__init__(self)
