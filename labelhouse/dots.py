"""The writes of one dot of a label, and what they tell of it whatever the look."""

from labelhouse.commands import NAMES, need_start, strokes
from labelhouse.drawing import covers, write_of
from labelhouse.errors import OutOfPlace
from labelhouse.values import is_between, is_one_of, is_row, is_whole


def need_dot(machine, x, y):
    """Refuse what is no dot of the label."""
    wide, high = machine[0]
    if not is_between(x, 0, wide - 1) or not is_between(y, 0, high - 1):
        raise OutOfPlace("this is no dot of the label")


def writes_at(drawn, dot):
    """The WRITES of a dot by the strokes of a program."""
    return tuple([write_of(settings, command, dot) for area, settings, command in drawn if covers(area, dot)])


def writes(machine, settings, program, x, y):
    """The WRITES of the dot (x, y)."""
    need_start(machine, settings, program)
    need_dot(machine, x, y)
    return writes_at(strokes(machine, settings, program), (x, y))


def last_ground(told):
    """The colour that the last ("clear",) or ("set", ()) gives, and the WRITES behind it."""
    ground, begin = 0, 0
    for at, write in enumerate(told):
        if write == ("clear",):
            ground, begin = 0, at + 1
        elif write == ("set", ()):
            ground, begin = 1, at + 1
    return ground, told[begin:]


def parity_of(told, odd, known):
    """The PARITY of the flips in WRITES of a dot that is odd ahead of them."""
    found = {}
    for word, source in told:
        if word == "set":
            continue
        if source == ():
            odd += 1
        elif source in known:
            odd += known[source]
        elif source in found:
            del found[source]
        else:
            found[source] = True
    return tuple(sorted(found)), odd % 2


def list_of(told):
    """The LIST that WRITES tell."""
    ground, rest = last_ground(told)
    last_set = {}
    for at, (word, source) in enumerate(rest):
        if word == "set":
            last_set[source] = at
    branches = []
    known = {}
    for at, glyph in sorted([(last_set[glyph], glyph) for glyph in last_set], reverse=True):
        known[glyph] = 1
        branches.append((glyph, parity_of(rest[at + 1:], 1, known)))
        known[glyph] = 0
    return tuple(branches), parity_of(rest, ground, known)


def dot_list(machine, settings, program, x, y):
    """The LIST of the dot (x, y)."""
    return list_of(writes(machine, settings, program, x, y))


def glyph_dots_of(told):
    """The ascending list of all GLYPH DOTS that are found in a LIST."""
    branches, last = told
    found = {glyph: True for glyph in last[0]}
    for glyph, parity in branches:
        found[glyph] = True
        for dot in parity[0]:
            found[dot] = True
    return sorted(found)


def share_of(told):
    """The SHARE that a LIST tells."""
    branches, last = told
    many = len(glyph_dots_of(told))
    parities = [parity for _, parity in branches] + [last]
    black = 0
    for at, (glyphs, odd) in enumerate(parities):
        # On the way to a branch, it and those ahead are known; on the way to the last parity, all branches are.
        looks = 1 << (many - min(at + 1, len(branches)))
        if len(glyphs) > 0:
            # A glyph of which nothing is known makes just half of the looks odd.
            black += looks // 2
        else:
            black += looks * odd
    return black, many


def share(machine, settings, program, x, y):
    """The SHARE of the dot (x, y)."""
    return share_of(dot_list(machine, settings, program, x, y))


def is_glyph_dot(value):
    """Whether any value is a GLYPH DOT of some machine."""
    if not is_row(value, 4) or not is_one_of(value[0], NAMES):
        return False
    return all([is_whole(number) and number >= 0 for number in value[1:]])


def is_parity(value, known):
    """Whether any value is a PARITY in which no known GLYPH DOT stands."""
    if not is_row(value, 2) or not isinstance(value[0], tuple) or not is_between(value[1], 0, 1):
        return False
    glyphs = value[0]
    if not all([is_glyph_dot(glyph) and glyph not in known for glyph in glyphs]):
        return False
    return all([one < other for one, other in zip(glyphs, glyphs[1:])])


def is_list(value):
    """Whether any value is a LIST of some machine."""
    if not is_row(value, 2) or not isinstance(value[0], tuple):
        return False
    known = {}
    for branch in value[0]:
        if not is_row(branch, 2) or not is_glyph_dot(branch[0]) or branch[0] in known:
            return False
        known[branch[0]] = True
        if not is_parity(branch[1], known):
            return False
    return is_parity(value[1], known)


def bits_of(glyphs, places):
    """The sum of the bits of GLYPH DOTS, each at its place."""
    return sum([1 << places[glyph] for glyph in glyphs])


def ways_of(told, places):
    """The ways through a LIST: tuples (WHITE, BLACK, GLYPHS, ODD), GLYPH DOTS being bits."""
    branches, last = told
    ways = []
    white = 0
    for glyph, (glyphs, odd) in branches:
        bit = 1 << places[glyph]
        ways.append((white, bit, bits_of(glyphs, places), odd))
        white = white | bit
    ways.append((white, 0, bits_of(last[0], places), last[1]))
    return ways


def parting_bits(way, far):
    """The bits of the GLYPH DOTS that are black in a LOOK that goes two ways which tell unlike; or None."""
    white, black, glyphs, odd = way
    far_white, far_black, far_glyphs, far_odd = far
    if black & far_white != 0 or far_black & white != 0:
        return None
    if glyphs & far_black != 0:
        odd = 1 - odd
    if far_glyphs & black != 0:
        far_odd = 1 - far_odd
    if odd != far_odd:
        return black | far_black
    unlike = (glyphs ^ far_glyphs) & ~(white | black | far_white | far_black)
    if unlike == 0:
        return None
    return black | far_black | (unlike & -unlike)


def parting(one, other):
    """The GLYPH DOTS that alone are black in a LOOK by which two LISTS tell unlike; None if they are ALIKE."""
    if one == other:
        return None
    places = {}
    for glyph in glyph_dots_of(one) + glyph_dots_of(other):
        places.setdefault(glyph, len(places))
    others = ways_of(other, places)
    for way in ways_of(one, places):
        for far in others:
            bits = parting_bits(way, far)
            if bits is not None:
                return [glyph for glyph, at in places.items() if bits >> at & 1 == 1]
    return None


def pattern(one, other):
    """Two rows of WRITES with numbers for their SOURCES: what has the same pattern is ALIKE or not as well."""
    numbers = {(): 0, "clear": 1}
    rows = [[(write[0], numbers.setdefault(write[-1], len(numbers))) for write in told] for told in (one, other)]
    return tuple(rows[0]), tuple(rows[1])


def parting_writes(one, other, known):
    """As parting, of the LISTS that two rows of WRITES tell; known keeps the patterns that are ALIKE."""
    if last_ground(one) == last_ground(other):
        return None
    key = pattern(one, other)
    if key not in known:
        black = parting(list_of(one), list_of(other))
        if black is not None:
            return black
        known[key] = True
    return None


def unlike_dot(machine, drawn, others):
    """The first dot, row by row, that is not ALIKE by two lists of strokes, and what is black then; or None."""
    wide, high = machine[0]
    known = {}
    for y in range(high):
        for x in range(wide):
            black = parting_writes(writes_at(drawn, (x, y)), writes_at(others, (x, y)), known)
            if black is not None:
                return x, y, black
    return None


def dots_alike(one, other):
    """Whether two LISTS are ALIKE."""
    if not is_list(one) or not is_list(other):
        raise OutOfPlace("this is no list of a dot")
    return parting(one, other) is None
