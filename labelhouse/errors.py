"""The errors of the package, each one for one kind of failure."""


class BadMachine(ValueError):
    """Something is no MACHINE; part names the first part that is not as told."""

    def __init__(self, part):
        ValueError.__init__(self, part)
        self.part = part


class BadProgram(ValueError):
    """Something is no PROGRAM; number is that of the first thing that is no COMMAND, or None."""

    def __init__(self, number):
        ValueError.__init__(self, number)
        self.number = number


class BadBook(ValueError):
    """Something is no BOOK; part names the first part that is not as told."""

    def __init__(self, part):
        ValueError.__init__(self, part)
        self.part = part


class BadPaper(ValueError):
    """A paper does not show what it should; part names what is not as told."""

    def __init__(self, part):
        ValueError.__init__(self, part)
        self.part = part


class BadText(ValueError):
    """A text is not that of a PROGRAM; line is the number of the first wrong line."""

    def __init__(self, line):
        ValueError.__init__(self, line)
        self.line = line


class OutOfPlace(ValueError):
    """An argument is not of the kind that is told; the text says which."""

    def __init__(self, text):
        ValueError.__init__(self, text)


class BadCounter(ValueError):
    """Something is no COUNTER; number is that of the first thing that is no DIAL, or None."""

    def __init__(self, number):
        ValueError.__init__(self, number)
        self.number = number


class BadRun(ValueError):
    """Something is no RUN; part names the first part that is not as told."""

    def __init__(self, part):
        ValueError.__init__(self, part)
        self.part = part


class BadSheet(ValueError):
    """Something is no SHEET; value is that thing."""

    def __init__(self, value):
        ValueError.__init__(self, value)
        self.value = value


class BadLengths(ValueError):
    """Something is no LENGTHS; number is that of the first wrong one, or None."""

    def __init__(self, number):
        ValueError.__init__(self, number)
        self.number = number


class BadDesire(ValueError):
    """Something is no DESIRE; number is that of the first thing that is no WANT, or None."""

    def __init__(self, number):
        ValueError.__init__(self, number)
        self.number = number


class BadStore(ValueError):
    """Something is no STORE; number and item tell the FORMAT and its item, or None."""

    def __init__(self, number, item):
        ValueError.__init__(self, number, item)
        self.number = number
        self.item = item


class TooGreat(OverflowError):
    """An argument is greater than a call takes; most is the greatest that it takes."""

    def __init__(self, most):
        OverflowError.__init__(self, most)
        self.most = most


class Nothing(LookupError):
    """There is nothing to take; the text says what is missing."""

    def __init__(self, text):
        LookupError.__init__(self, text)


class Empty(LookupError):
    """A roll has too few labels; rest is how many are left."""

    def __init__(self, rest):
        LookupError.__init__(self, rest)
        self.rest = rest
