"""Kinds of which perhaps not all is known, and which of them are one."""

from barewords.kinds import are_made_alike, folded


class Web:
    """Knots, numbered from 0, each for a kind; what knots that are tied stand for is one kind.

    Of the top knot of those that are tied, kinds tells the form, a kind whose inner ones are
    not looked at, or None if it is unknown; within the knots for these. Words that ask for
    what is unknown are laid down in asking until it is known; then they come to woken.
    """

    def __init__(self):
        self.above = []
        self.kinds = []
        self.within = []
        self.asking = []
        self.woken = []

    def known(self, kind, within):
        """A new knot for a kind of this form, with these knots for the kinds within."""
        self.above.append(len(self.above))
        self.kinds.append(kind)
        self.within.append(within)
        self.asking.append([])
        return len(self.above) - 1

    def unknown(self):
        return self.known(None, ())

    def unknowns(self, many):
        return tuple([self.unknown() for _ in range(many)])

    def made(self, kind, letters):
        """A knot for a kind, with these knots for its letters."""
        return folded(kind, letters, self.known)

    def all_made(self, kinds, letters):
        return tuple([self.made(kind, letters) for kind in kinds])

    def top(self, knot):
        while self.above[knot] != knot:
            # Ways are made shorter while they are gone, or long chains would take too long.
            self.above[knot] = self.above[self.above[knot]]
            knot = self.above[knot]
        return knot

    def asks(self, knot, word):
        """Have a word come to woken as soon as it is known what the knot stands for."""
        top = self.top(knot)
        if self.kinds[top] is None:
            self.asking[top].append(word)
        else:
            self.woken.append((top, word))

    def hangs(self, low, high):
        """Put one top below another one, which is known if one of them is."""
        self.above[low] = high
        words = self.asking[low]
        if self.kinds[high] is None:
            self.asking[high].extend(words)
        else:
            self.woken.extend([(high, word) for word in words])

    def tied(self, one, other):
        """Tie two knots, and by this what is within them; whether they can be tied."""
        pairs = [(one, other)]
        while pairs:
            low, high = [self.top(knot) for knot in pairs.pop()]
            if low == high:
                continue
            if self.kinds[high] is None:
                low, high = high, low
            if self.kinds[low] is not None:
                if not are_made_alike(self.kinds[low], self.kinds[high]):
                    return False
                pairs.extend(list(zip(self.within[low], self.within[high])))
            elif len(self.asking[low]) > len(self.asking[high]) and self.kinds[high] is None:
                # The fewer words are moved, or long chains of unknown ones would take too long.
                low, high = high, low
            self.hangs(low, high)
        return True

    def has_loop(self):
        """Whether a kind would hold itself."""
        tops = [knot for knot, above in enumerate(self.above) if knot == above]
        around = {top: [] for top in tops}
        for top in tops:
            for inner in self.within[top]:
                around[self.top(inner)].append(top)
        # What holds nothing ends; and what holds nothing but what ends.
        left = {top: len(self.within[top]) for top in tops}
        ended = [top for top in tops if left[top] == 0]
        many = 0
        while ended:
            many += 1
            top = ended.pop()
            for outer in around[top]:
                left[outer] -= 1
                if left[outer] == 0:
                    ended.append(outer)
        return many < len(tops)
