"""The writes of one dot of a label, and what they tell of it whatever the look."""

from labelhouse.commands import NAMES, need_start, strokes
from labelhouse.drawing import covers, write_of
from labelhouse.errors import OutOfPlace
from labelhouse.values import is_between, is_one_of, is_row, is_whole


def need_dot(machine, x, y):
    """Refuse what is no dot of the label."""
    wide, high = machine[0]
    if not is_between(x, 0, wide - 1) or not is_between(y, 0, high - 1):
        raise OutOfPlace("this is no dot of the label")


def writes_at(drawn, dot):
    """The WRITES of a dot by the strokes of a program."""
    return tuple([write_of(settings, command, dot) for area, settings, command in drawn if covers(area, dot)])


def writes(machine, settings, program, x, y):
    """The WRITES of the dot (x, y)."""
    need_start(machine, settings, program)
    need_dot(machine, x, y)
    return writes_at(strokes(machine, settings, program), (x, y))


def last_ground(told):
    """The colour that the last ("clear",) or ("set", ()) gives, and the WRITES behind it."""
    ground, begin = 0, 0
    for at, write in enumerate(told):
        if write == ("clear",):
            ground, begin = 0, at + 1
        elif write == ("set", ()):
            ground, begin = 1, at + 1
    return ground, told[begin:]


def parity_of(told, odd, known):
    """The PARITY of the flips in WRITES of a dot that is odd ahead of them."""
    found = {}
    for word, source in told:
        if word == "set":
            continue
        if source == ():
            odd += 1
        elif source in known:
            odd += known[source]
        elif source in found:
            del found[source]
        else:
            found[source] = True
    return tuple(sorted(found)), odd % 2


def list_of(told):
    """The LIST that WRITES tell."""
    ground, rest = last_ground(told)
    last_set = {}
    for at, (word, source) in enumerate(rest):
        if word == "set":
            last_set[source] = at
    branches = []
    known = {}
    for at, glyph in sorted([(last_set[glyph], glyph) for glyph in last_set], reverse=True):
        known[glyph] = 1
        branches.append((glyph, parity_of(rest[at + 1:], 1, known)))
        known[glyph] = 0
    return tuple(branches), parity_of(rest, ground, known)


def dot_list(machine, settings, program, x, y):
    """The LIST of the dot (x, y)."""
    return list_of(writes(machine, settings, program, x, y))


def ways_of(told):
    """A list of pairs: what is known of GLYPH DOTS on each way through a LIST, and its PARITY."""
    branches, last = told
    ways = []
    white = []
    for glyph, parity in branches:
        known = {dot: 0 for dot in white}
        known[glyph] = 1
        ways.append((known, parity))
        white.append(glyph)
    ways.append(({dot: 0 for dot in white}, last))
    return ways


def glyph_dots_of(told):
    """The ascending list of all GLYPH DOTS that are found in a LIST."""
    branches, last = told
    found = {glyph: True for glyph in last[0]}
    for glyph, parity in branches:
        found[glyph] = True
        for dot in parity[0]:
            found[dot] = True
    return sorted(found)


def share_of(told):
    """The SHARE that a LIST tells."""
    many = len(glyph_dots_of(told))
    black = 0
    for known, (glyphs, odd) in ways_of(told):
        looks = 1 << (many - len(known))
        if len(glyphs) > 0:
            # A glyph of which nothing is known makes just half of the looks odd.
            black += looks // 2
        else:
            black += looks * odd
    return black, many


def share(machine, settings, program, x, y):
    """The SHARE of the dot (x, y)."""
    return share_of(dot_list(machine, settings, program, x, y))


def is_glyph_dot(value):
    """Whether any value is a GLYPH DOT of some machine."""
    if not is_row(value, 4) or not is_one_of(value[0], NAMES):
        return False
    return all([is_whole(number) and number >= 0 for number in value[1:]])


def is_parity(value, known):
    """Whether any value is a PARITY in which no known GLYPH DOT stands."""
    if not is_row(value, 2) or not isinstance(value[0], tuple) or not is_between(value[1], 0, 1):
        return False
    glyphs = value[0]
    if not all([is_glyph_dot(glyph) and glyph not in known for glyph in glyphs]):
        return False
    return all([one < other for one, other in zip(glyphs, glyphs[1:])])


def is_list(value):
    """Whether any value is a LIST of some machine."""
    if not is_row(value, 2) or not isinstance(value[0], tuple):
        return False
    known = {}
    for branch in value[0]:
        if not is_row(branch, 2) or not is_glyph_dot(branch[0]) or branch[0] in known:
            return False
        known[branch[0]] = True
        if not is_parity(branch[1], known):
            return False
    return is_parity(value[1], known)


def put_in(parity, known):
    """A PARITY with what is known of GLYPH DOTS put in."""
    glyphs, odd = parity
    odd += sum([known[glyph] for glyph in glyphs if glyph in known])
    return [glyph for glyph in glyphs if glyph not in known], odd % 2


def same_where_both(one, other):
    """Whether two ways through LISTS tell the same by all LOOKS that go both."""
    known = {dot: worth for dot, worth in one[0].items()}
    for dot, worth in other[0].items():
        if dot in known and known[dot] != worth:
            return True
        known[dot] = worth
    return put_in(one[1], known) == put_in(other[1], known)


def dots_alike(one, other):
    """Whether two LISTS are ALIKE."""
    if not is_list(one) or not is_list(other):
        raise OutOfPlace("this is no list of a dot")
    others = ways_of(other)
    return all([same_where_both(way, far) for way in ways_of(one) for far in others])
