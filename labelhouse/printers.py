"""A printer that prints the texts of a counter one by one, and what can be tried with it and taken back."""

from labelhouse.counters import is_text, need_counter, size_of
from labelhouse.errors import Empty, Nothing, OutOfPlace
from labelhouse.runs import MOST_MANY, MOST_STEP, first_serial, round_length, text_of_serial
from labelhouse.values import is_between, is_whole


def need_roll(roll):
    """Refuse what does not tell how many labels are on a roll; None is one without end."""
    if roll is not None and not is_between(roll, 0, MOST_MANY):
        raise OutOfPlace("this is no number of labels on a roll")


class Trial:
    """For one with statement: behind its block a printer is as it was when the block began."""

    def __init__(self, printer):
        self._printer = printer

    def __enter__(self):
        printer = self._printer
        self._deeds = list(printer._deeds)
        self._past = list(printer._past)
        self._lost = list(printer._lost)
        self._printed = printer._printed
        self._left = printer._left
        return printer

    def __exit__(self, kind, value, trace):
        printer = self._printer
        printer._deeds = self._deeds
        printer._past = self._past
        printer._lost = self._lost
        printer._printed = self._printed
        printer._left = self._left


class Printer:
    """A printer that prints the TEXTS of a COUNTER one by one."""

    def __init__(self, counter, begin, step, *, roll=None):
        need_counter(counter)
        if not is_between(begin, 0, size_of(counter) - 1):
            raise OutOfPlace("this is no number of a text to begin with")
        if not is_between(step, -MOST_STEP, MOST_STEP):
            raise OutOfPlace("this is no step")
        need_roll(roll)
        # With what it began; a run begins with the same three things, and so its functions can be asked.
        self._begun = (counter, begin, step, roll)
        # Each deed, and what it needs to be taken back: what was printed and left ahead of it, and which pairs of
        # lost labels it took away, the last one first.
        self._deeds = []
        self._past = []
        self._printed = 0
        self._left = roll
        self._lost = []

    def __call__(self, many):
        """Print so many labels, and give the pair of the first TEXT and the last one."""
        if not is_between(many, 1, MOST_MANY):
            raise OutOfPlace("this is no number of labels to print")
        if self._left is not None and many > self._left:
            raise Empty(self._left)
        self._note("call", many, [])
        first = self._printed
        self._printed = first + many
        if self._left is not None:
            self._left = self._left - many
        return self._texts(first, self._printed)

    def __len__(self):
        return len(self._deeds)

    def __eq__(self, other):
        return isinstance(other, Printer) and self._begun == other._begun and self._deeds == other._deeds

    def __contains__(self, x):
        """Whether any value is a TEXT of which some printed label is not lost."""
        if not is_text(self._begun[0], x):
            return False
        serial = first_serial(self._begun, x)
        if serial is None:
            return False
        around = round_length(self._begun)
        # How many labels of this TEXT are printed, but for those that are lost.
        whole = shown_ahead(serial, around, self._printed)
        lost = [shown_ahead(serial, around, end) - shown_ahead(serial, around, first) for first, end in self._lost]
        return whole > sum(lost)

    @property
    def counter(self):
        """The COUNTER."""
        return self._begun[0]

    @property
    def begin(self):
        """The number of the first TEXT."""
        return self._begun[1]

    @property
    def step(self):
        """By how much the number of the TEXT goes on."""
        return self._begun[2]

    @property
    def printed(self):
        """How many labels were printed in all."""
        return self._printed

    @property
    def left(self):
        """How many labels are left on the roll; None of one without end."""
        return self._left

    @property
    def lost(self):
        """The pairs (FIRST, BEHIND) of numbers of printed labels that are lost."""
        return tuple(self._lost)

    @property
    def next_text(self):
        """The TEXT that comes next."""
        return text_of_serial(self._begun, self._printed)

    def jam(self, many):
        """The last so many labels that were printed are lost."""
        if not is_between(many, 1, self._printed):
            raise OutOfPlace("so many labels were not printed")
        first = self._printed - many
        taken = []
        while len(self._lost) > 0 and self._lost[-1][1] >= first:
            taken.append(self._lost.pop())
        self._note("jam", many, taken)
        if len(taken) > 0:
            first = min(first, taken[-1][0])
        self._lost.append((first, self._printed))

    def again(self):
        """Take the lost labels away, and give the pairs of the first and the last TEXT of each pair of them."""
        if len(self._lost) == 0:
            raise Nothing("no label is lost")
        texts = tuple([self._texts(first, behind) for first, behind in self._lost])
        self._note("again", 0, self._lost[::-1])
        self._lost = []
        return texts

    def roll(self, many):
        """Put in a new roll with so many labels."""
        need_roll(many)
        self._note("roll", many, [])
        self._left = many

    def back(self, *, many=1):
        """Take the last calls, jams, rolls and agains back."""
        if not is_whole(many) or many < 1:
            raise OutOfPlace("this is no number of deeds")
        if many > len(self._deeds):
            raise Nothing("there are not so many deeds")
        for _ in range(many):
            self._undo()

    def copy(self):
        """A Printer that stands likewise and goes on by itself."""
        counter, begin, step, roll = self._begun
        twin = Printer(counter, begin, step, roll=roll)
        twin._deeds = list(self._deeds)
        twin._past = list(self._past)
        twin._lost = list(self._lost)
        twin._printed = self._printed
        twin._left = self._left
        return twin

    def trial(self):
        """An object for one with statement, behind whose block the printer is as it was when the block began."""
        return Trial(self)

    def _texts(self, first, behind):
        """The TEXTS of the first and of the last one of some labels."""
        return text_of_serial(self._begun, first), text_of_serial(self._begun, behind - 1)

    def _note(self, word, many, taken):
        """Keep a deed, ahead of what it changes but for the lost labels that it took away."""
        self._deeds.append((word, many))
        self._past.append((self._printed, self._left, taken))

    def _undo(self):
        """Take the last deed back."""
        word, _ = self._deeds.pop()
        self._printed, self._left, taken = self._past.pop()
        if word == "jam":
            self._lost.pop()
        self._lost.extend(taken[::-1])


def shown_ahead(serial, around, end):
    """How many numbers less than an end are a serial, less than around, or some times around behind it."""
    return (end - 1 - serial) // around + 1


def under(printer, deed):
    """What a deed with a printer returns, done in a trial of it."""
    if not isinstance(printer, Printer):
        raise OutOfPlace("this is no printer")
    with printer.trial() as held:
        return deed(held)
