"""Where drawing commands stand on a label, and what they do to its dots.

An area is a tuple (LEFT, TOP, RIGHT, BOTTOM) of the least and the greatest X
and Y of a rectangle of dots; a rectangle without a dot is None.
"""


def dot_of(settings, point):
    """The dot at which a local point stands, on the label or not."""
    left, top, turn = settings[:3]
    x, y = point
    if turn == 0:
        return left + x, top + y
    if turn == 1:
        return left - y, top + x
    if turn == 2:
        return left - x, top - y
    return left + y, top - x


def point_of(settings, dot):
    """The local point that stands at a dot."""
    right, down = dot[0] - settings[0], dot[1] - settings[1]
    turn = settings[2]
    if turn == 0:
        return right, down
    if turn == 1:
        return down, -right
    if turn == 2:
        return -right, -down
    return -down, right


def label_area(machine):
    """The area of a whole label."""
    wide, high = machine[0]
    return 0, 0, wide - 1, high - 1


def overlap(one, other):
    """The area that two areas share, or None."""
    left, top = max(one[0], other[0]), max(one[1], other[1])
    right, bottom = min(one[2], other[2]), min(one[3], other[3])
    if left > right or top > bottom:
        return None
    return left, top, right, bottom


def signs_of(machine, command):
    """How many signs a drawing command has at most: 1 of a box or a clear."""
    if command[0] == "field":
        return dict(machine[2])[command[3]]
    return 1


def extent(machine, settings, command, signs):
    """How many local points a drawing command with so many signs is wide and high."""
    if command[0] == "field":
        cell, tall = machine[1][settings[3]]
        return signs * cell * settings[4], tall * settings[4]
    return command[3], command[4]


def reach(machine, settings, command, signs):
    """The area of the points of a drawing command with so many signs, lost ones too."""
    wide, high = extent(machine, settings, command, signs)
    x, y = command[1], command[2]
    ax, ay = dot_of(settings, (x, y))
    bx, by = dot_of(settings, (x + wide - 1, y + high - 1))
    return min(ax, bx), min(ay, by), max(ax, bx), max(ay, by)


def visible(machine, settings, command, signs):
    """The area of the points that are not lost, or None."""
    return overlap(reach(machine, settings, command, signs), label_area(machine))


def covers(area, dot):
    """Whether a dot is in an area."""
    return area[0] <= dot[0] <= area[2] and area[1] <= dot[1] <= area[3]


def source_of(settings, command, dot):
    """The SOURCE that a box or a field has at a dot that it reaches."""
    if command[0] == "box":
        return ()
    x, y = point_of(settings, dot)
    font, scale = settings[3], settings[4]
    return command[3], font, (x - command[1]) // scale, (y - command[2]) // scale


def write_of(settings, command, dot):
    """The WRITE by which a drawing command changes a dot that it reaches."""
    if command[0] == "clear":
        return ("clear",)
    return settings[5], source_of(settings, command, dot)
