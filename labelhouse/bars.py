"""Bars, and whether they can be read from the other end.

Two rows of modules begin alike: what is read from the other end, and what is read from the front. A pending tells by
how much the one of them is longer.
"""

from labelhouse.errors import BadBook, BadPaper, OutOfPlace
from labelhouse.values import is_between, is_one_of, is_row

SIGNS = "0123456789ABCDEFGHIJKLMNOPQRSTUVWXYZ"


def are_modules(value, low, high):
    """Whether a value is a string of so many modules."""
    return isinstance(value, str) and low <= len(value) <= high and value.strip("01") == ""


def is_word_pair(value):
    """Whether a value is a pair of a sign and a word."""
    if not is_row(value, 2) or not isinstance(value[0], str):
        return False
    return len(value[0]) == 1 and value[0] in SIGNS and are_modules(value[1], 2, 12)


def are_words(value):
    """Whether a value is the WORDS of a book."""
    if not isinstance(value, tuple) or not 2 <= len(value) <= len(SIGNS):
        return False
    if not all([is_word_pair(pair) for pair in value]):
        return False
    words = [word for _, word in value]
    if len(set([sign for sign, _ in value])) < len(value) or len(set(words)) < len(value):
        return False
    return len(set([len(word) for word in words])) == 1


def need_book(thing):
    """Give a BOOK back; refuse anything else with its first wrong part."""
    if not is_row(thing, 3):
        raise BadBook("form")
    if not are_modules(thing[0], 1, 12):
        raise BadBook("start")
    if not are_modules(thing[1], 1, 12):
        raise BadBook("stop")
    if not are_words(thing[2]):
        raise BadBook("words")
    return thing


def is_text(book, value):
    """Whether a value is a text of at least one SIGN of a book."""
    if not isinstance(value, str) or value == "":
        return False
    words = dict(book[2])
    return all([sign in words for sign in value])


def need_text(book, text):
    """Refuse what is no text of at least one SIGN."""
    if not is_text(book, text):
        raise OutOfPlace("this is no text of signs of the book")


def bars_of(book, text):
    """The BARS of a text, of what has been looked at."""
    start, stop, pairs = book
    words = dict(pairs)
    return start + "".join([words[sign] for sign in text]) + stop


def bars(book, text):
    """The BARS of a text."""
    need_book(book)
    need_text(book, text)
    return bars_of(book, text)


def read_bars(book, string):
    """The text of which a string is the BARS, or None, of what has been looked at."""
    start, stop, pairs = book
    length = len(pairs[0][1])
    many = (len(string) - len(start) - len(stop)) // length
    if many < 1 or string[:len(start)] != start:
        return None
    signs = {word: sign for sign, word in pairs}
    words = [string[len(start) + at * length:len(start) + (at + 1) * length] for at in range(many)]
    if not all([word in signs for word in words]):
        return None
    if string[len(start) + many * length:] != stop:
        return None
    return "".join([signs[word] for word in words])


def reading(book, string):
    """The text of which a string is the BARS, or None."""
    need_book(book)
    if not isinstance(string, str):
        raise OutOfPlace("this is no string")
    return read_bars(book, string)


def turned(book, text):
    """The text as which the BARS of a text are read from the other end, or None."""
    return read_bars(book, bars(book, text)[::-1])


def pending_of(one, other):
    """A list of the PENDING of two rows of which one begins with the other; an empty list if none does."""
    if one.startswith(other):
        return [(0, one[len(other):])]
    if other.startswith(one):
        return [(1, other[len(one):])]
    return []


def first_pendings(book):
    """A list of the PENDING without a word yet, if there is one."""
    return pending_of(book[1][::-1], book[0])


def coming(book, pending):
    """A list of pairs: each PENDING that comes by one word more in both rows, and the SIGN in the other row."""
    side, modules = pending
    signs = {word: sign for sign, word in book[2]}
    length = len(book[2][0][1])
    found = []
    for sign, word in book[2]:
        # The longer row tells the word of the shorter one.
        longer = modules + (word if side == 1 else word[::-1])
        short = longer[:length] if side == 0 else longer[:length][::-1]
        if short in signs:
            found.append(((side, longer[length:]), sign if side == 1 else signs[short]))
    return found


def closes(book, pending):
    """Whether both rows become the same with what stands at their ends."""
    start, stop = book[:2]
    side, modules = pending
    if side == 0:
        return modules + start[::-1] == stop
    return start[::-1] == modules + stop


def shortest_turning(book, reached):
    """A text with as few SIGNS as any whose BARS TURN, or None; reached is filled with all PENDINGS."""
    queue = [(pending, "") for pending in first_pendings(book)]
    for pending, _ in queue:
        reached[pending] = True
    while len(queue) > 0:
        behind = []
        for pending, text in queue:
            for come, sign in coming(book, pending):
                if closes(book, come):
                    return text + sign
                if come not in reached:
                    reached[come] = True
                    behind.append((come, text + sign))
        queue = behind
    return None


def book_paper(book):
    """A paper: whether BARS of some text TURN."""
    need_book(book)
    reached = {}
    text = shortest_turning(book, reached)
    if text is not None:
        return "turns", text
    return "safe", tuple(sorted(reached))


def is_pending(book, value):
    """Whether a value can be a PENDING: all are of one length, and of one side but for the empty one."""
    more = len(book[1]) - len(book[0])
    side = 1 if more < 0 else 0
    return is_row(value, 2) and is_between(value[0], side, side) and are_modules(value[1], abs(more), abs(more))


def is_table(book, value):
    """Whether a value is a TABLE that shows that a book is safe."""
    if not isinstance(value, tuple) or not all([is_pending(book, pending) for pending in value]):
        return False
    if not all([one < other for one, other in zip(value, value[1:])]):
        return False
    held = {pending: True for pending in value}
    if not all([pending in held for pending in first_pendings(book)]):
        return False
    for pending in value:
        for come, _ in coming(book, pending):
            if come not in held or closes(book, come):
                return False
    return True


def check_book(book, paper):
    """The word of a paper that holds: "turns" or "safe"."""
    need_book(book)
    if not is_row(paper, 2) or not is_one_of(paper[0], ("turns", "safe")):
        raise BadPaper("form")
    word, shown = paper
    if word == "turns" and (not is_text(book, shown) or read_bars(book, bars_of(book, shown)[::-1]) is None):
        raise BadPaper("turns")
    if word == "safe" and not is_table(book, shown):
        raise BadPaper("safe")
    return word
