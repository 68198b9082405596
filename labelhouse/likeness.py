"""Whether two programs print the same, whatever the looks, and whatever the settings were."""

from labelhouse.commands import PLAIN, need_machine, need_program, need_start, strokes
from labelhouse.dots import unlike_dot
from labelhouse.errors import TooGreat
from labelhouse.rounds import effect_of
from labelhouse.spots import unlike_spot
from labelhouse.stands import marks_of

MOST_SIZE = 12

# Which settings a command uses, and which ones it tells.
USED = {
    "box": ("ink", "turn", "x", "y"),
    "clear": ("turn", "x", "y"),
    "field": ("font", "ink", "scale", "turn", "x", "y"),
}
TOLD = {
    "home": ("x", "y"),
    "turn": ("turn",),
    "font": ("font",),
    "scale": ("scale",),
    "ink": ("ink",),
    "plain": ("font", "ink", "scale", "turn", "x", "y"),
}


def look_of(machine, black):
    """The LOOK by which just some GLYPH DOTS are black."""
    signs = {glyph: "#" for glyph in black}
    parts = []
    for name, most in machine[2]:
        for font, (cell, tall) in enumerate(machine[1]):
            rows = [
                "".join([signs.get((name, font, i, j), ".") for i in range(most * cell)]) for j in range(tall)
            ]
            parts.append((name, font, tuple(rows)))
    return tuple(parts)


def apart_from(machine, settings, one, other):
    """The first dot at which two PROGRAMS begun with SETTINGS are not ALIKE, and a LOOK that parts it; or None."""
    need_start(machine, settings, one)
    need_program(machine, other)
    found = unlike_dot(machine, strokes(machine, settings, one), strokes(machine, settings, other))
    if found is None:
        return None
    x, y, black = found
    return x, y, look_of(machine, black)


def alike_from(machine, settings, one, other):
    """Whether two PROGRAMS are ALIKE FROM SETTINGS."""
    return apart_from(machine, settings, one, other) is None


def names_read(program):
    """The names of the settings that a PROGRAM READS, as the keys of a dict."""
    told = {}
    found = {}
    for command in program:
        for name in USED.get(command[0], ()):
            if name not in told:
                found[name] = True
        for name in TOLD.get(command[0], ()):
            told[name] = True
    return found


def reads(machine, program):
    """The names of the settings that a PROGRAM READS."""
    need_machine(machine)
    need_program(machine, program)
    return tuple(sorted(names_read(program)))


def starts(machine, names):
    """The list of all SETTINGS with the ORIGIN (0, 0) in which settings without these names are PLAIN."""
    turns = (0, 1, 2, 3) if "turn" in names else (0,)
    fonts = [font for font in range(len(machine[1])) if font == 0 or "font" in names]
    scales = (1, 2, 3) if "scale" in names else (1,)
    inks = ("set", "flip") if "ink" in names else ("set",)
    return [
        (0, 0, turn, font, scale, ink) for turn in turns for font in fonts for scale in scales for ink in inks
    ]


def parted(machine, one, other):
    """As apart, of what has been looked at."""
    names = list(names_read(one)) + list(names_read(other))
    known = {}
    for start in starts(machine, names):
        stands = {}
        rows = (marks_of(machine, start, one, stands), marks_of(machine, start, other, stands))
        found = unlike_spot(list(stands), rows, machine[0], known)
        if found is not None:
            (x, y), black = found
            # The origin is not read where all stands are told, and is as well the plain one then.
            origin = (x[0] - x[1], y[0] - y[1]) if "x" in names else PLAIN[:2]
            return origin + start[2:], x[0], y[0], look_of(machine, black)
    return None


def need_small(machine):
    """Refuse what is no MACHINE, and one whose labels are too great for all ORIGINS."""
    need_machine(machine)
    if max(machine[0]) > MOST_SIZE:
        raise TooGreat(MOST_SIZE)


def apart(machine, one, other):
    """SETTINGS, a dot and a LOOK that part two PROGRAMS; None if they are ALIKE."""
    need_small(machine)
    need_program(machine, one)
    need_program(machine, other)
    return parted(machine, one, other)


def alike(machine, one, other):
    """Whether two PROGRAMS are ALIKE."""
    return apart(machine, one, other) is None


def leaves_alike(machine, one, other):
    """Whether two PROGRAMS leave the same SETTINGS behind from all."""
    pairs = list(zip(effect_of(one), effect_of(other)))
    if len(machine[1]) == 1:
        # Where there is one font, it is the same to tell it and to keep it.
        del pairs[3]
    return all([pair == far for pair, far in pairs])


def needless(machine, program):
    """The numbers of the NEEDLESS commands of a PROGRAM."""
    need_small(machine)
    need_program(machine, program)
    found = []
    for number in range(len(program)):
        rest = program[:number] + program[number + 1:]
        if leaves_alike(machine, program, rest) and parted(machine, program, rest) is None:
            found.append(number)
    return tuple(found)
