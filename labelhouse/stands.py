"""Where the drawing commands of programs stand when nothing is known of the ORIGIN that they begin with.

A stand is a tuple (FREE, XS, YS, SCALE, KIND). FREE tells whether it is moved with that ORIGIN; its numbers are then
counted from there, otherwise from the dot (0, 0). XS and YS are the X and the Y of its first point and of its last
one. KIND is a triple (NAME, FONT, whether columns go along Y) of a field, () of a box or a clear.

A spot is a pair of places, one along X and one along Y. A place is a pair (DOT, FAR): the number of a dot on the label
along this axis, and how far it is from the ORIGIN. Axes are called 1, along X, and 2, along Y, as they stand in stands.
"""

from labelhouse.commands import DRAWING, steps
from labelhouse.drawing import dot_of, label_area, overlap, reach, signs_of


def stand_of(machine, free, settings, command):
    """The stand of a drawing command."""
    left, top, right, bottom = reach(machine, settings, command, signs_of(machine, command))
    if command[0] != "field":
        return free, (left, right), (top, bottom), 1, ()
    x, y = dot_of(settings, command[1:3])
    across = (left, right) if x == left else (right, left)
    down = (top, bottom) if y == top else (bottom, top)
    return free, across, down, settings[4], (command[3], settings[3], settings[2] in (1, 3))


def is_lost(machine, stand):
    """Whether no dot of the label is ever reached from a stand."""
    free, xs, ys = stand[:3]
    return not free and overlap((min(xs), min(ys), max(xs), max(ys)), label_area(machine)) is None


def hides_all(machine, stand, word):
    """Whether a mark makes every dot of the label white, or every one black."""
    free, xs, ys, _, kind = stand
    if free or kind != () or word == "flip":
        return False
    wide, high = machine[0]
    return xs[0] <= 0 and xs[1] >= wide - 1 and ys[0] <= 0 and ys[1] >= high - 1


def marks_of(machine, settings, program, stands):
    """A list of pairs: the word of the WRITES of each drawing command, and the number of its stand in stands.

    SETTINGS have the ORIGIN (0, 0); stands that are not yet in that dict are put there. What is never seen is left out.
    """
    free = True
    marks = []
    for now, command in steps(settings, program):
        if command[0] in ("home", "plain"):
            free = False
        if command[0] in DRAWING:
            stand = stand_of(machine, free, now, command)
            word = "clear" if command[0] == "clear" else now[5]
            if hides_all(machine, stand, word):
                marks = []
            if not is_lost(machine, stand):
                marks.append((word, stands.setdefault(stand, len(stands))))
    return marks


def index_at(stand, axis, place):
    """The number of the GLYPH DOTS of a field along an axis at a place that it reaches."""
    at = place[1] if stand[0] else place[0]
    return abs(at - stand[axis][0]) // stand[3]


def source_at(stand, spot):
    """The GLYPH DOT that the stand of a field has at a spot that it reaches."""
    name, font, turned = stand[4]
    across = index_at(stand, 1, spot[0])
    down = index_at(stand, 2, spot[1])
    if turned:
        return name, font, down, across
    return name, font, across, down


def live_marks(stands, marks, mask):
    """Of the marks at spots that just the stands of a mask reach, those that count; with -1 as the number of a box.

    What is drawn ahead of a clear, or of a box that is set, does not count.
    """
    found = []
    for word, number in marks[::-1]:
        if mask >> number & 1 == 1:
            if word == "clear":
                break
            if stands[number][4] != ():
                found.append((word, number))
            else:
                found.append((word, -1))
                if word == "set":
                    break
    return tuple(found[::-1])


def writes_there(stands, marks, spot):
    """The WRITES that live marks make at a spot."""
    return tuple([(word, () if number < 0 else source_at(stands[number], spot)) for word, number in marks])
