"""What is cut off at the edges of a label, what meets on it, and the room that is left."""

from labelhouse.commands import DRAWING, need_start, steps
from labelhouse.drawing import label_area, overlap, reach, signs_of, visible
from labelhouse.errors import OutOfPlace
from labelhouse.values import is_between


def is_cut(machine, settings, command, signs):
    """Whether some points of a drawing command with so many signs are lost."""
    return visible(machine, settings, command, signs) != reach(machine, settings, command, signs)


def least_cut(machine, settings, command):
    """The least number of signs with which a command is CUT, or None."""
    if command[0] not in DRAWING:
        return None
    for signs in range(1, signs_of(machine, command) + 1):
        if is_cut(machine, settings, command, signs):
            return signs
    return None


def cuts(machine, settings, program):
    """With how many signs each command is CUT first, None of one that is not."""
    need_start(machine, settings, program)
    return tuple([least_cut(machine, now, command) for now, command in steps(settings, program)])


def need_two(program, first, last):
    """Refuse two that are no numbers of a box or a field, the first one less."""
    for number in (first, last):
        if not is_between(number, 0, len(program) - 1):
            raise OutOfPlace("this is no number of a command")
        if program[number][0] not in ("box", "field"):
            raise OutOfPlace("this command is no box and no field")
    if first >= last:
        raise OutOfPlace("the first number is not less than the last one")


def views(machine, step):
    """A list of pairs: each number of signs of a box or field, and the area that is seen with it."""
    settings, command = step
    numbers = range(1, signs_of(machine, command) + 1)
    areas = [(signs, visible(machine, settings, command, signs)) for signs in numbers]
    return [(signs, area) for signs, area in areas if area is not None]


def least_pairs(machine, settings, program, first, last):
    """The LEAST PAIRS of the commands with the numbers first and last."""
    need_start(machine, settings, program)
    need_two(program, first, last)
    done = steps(settings, program)
    ones, others = views(machine, done[first]), views(machine, done[last])
    met = {(n, m): True for n, one in ones for m, other in others if overlap(one, other) is not None}
    return tuple(sorted([(n, m) for n, m in met if (n - 1, m) not in met and (n, m - 1) not in met]))


def need_movable(program):
    """Refuse a program with a home or a plain, or that draws nothing."""
    words = [command[0] for command in program]
    if "home" in words or "plain" in words:
        raise OutOfPlace("this program has a home or a plain")
    if not any([word in DRAWING for word in words]):
        raise OutOfPlace("this program draws nothing")


def room(machine, settings, program):
    """The area of the ROOM: where a program may begin so that nothing is CUT; or None."""
    need_start(machine, settings, program)
    need_movable(program)
    begun = (0, 0) + settings[2:]
    areas = [
        reach(machine, now, command, signs_of(machine, command))
        for now, command in steps(begun, program)
        if command[0] in DRAWING
    ]
    right, bottom = label_area(machine)[2:]
    least_x = max([-area[0] for area in areas])
    least_y = max([-area[1] for area in areas])
    greatest_x = min([right - area[2] for area in areas])
    greatest_y = min([bottom - area[3] for area in areas])
    if least_x > greatest_x or least_y > greatest_y:
        return None
    return least_x, least_y, greatest_x, greatest_y
