"""Machines, settings, commands and looks, and the picture that a program prints."""

from labelhouse.drawing import signs_of, visible, write_of
from labelhouse.errors import BadMachine, BadProgram, OutOfPlace
from labelhouse.values import is_between, is_one_of, is_row, is_whole

PLAIN = (0, 0, 0, 0, 1, "set")

NAMES = ("A", "B", "C", "D", "E", "F", "G", "H")
INKS = ("set", "flip")
DRAWING = ("box", "clear", "field")
MOST_COMMANDS = 60
FARTHEST = 1000000

# Which kinds of things stand in settings, and in a command behind its word.
SETTING_KINDS = ("origin", "origin", "turn", "font", "scale", "ink")
COMMAND_KINDS = {
    "home": ("place", "place"),
    "move": ("place", "place"),
    "turn": ("turn",),
    "font": ("font",),
    "scale": ("scale",),
    "ink": ("ink",),
    "plain": (),
    "box": ("place", "place", "length", "length"),
    "clear": ("place", "place", "length", "length"),
    "field": ("place", "place", "name"),
}
SETTING_PLACES = {"turn": 2, "font": 3, "scale": 4, "ink": 5}


def is_size(value):
    """Whether a value is the SIZE of a machine."""
    return is_row(value, 2) and is_between(value[0], 1, 40) and is_between(value[1], 1, 40)


def is_font(value):
    """Whether a value is one of the FONTS of a machine."""
    return is_row(value, 2) and is_between(value[0], 1, 8) and is_between(value[1], 1, 8)


def are_fonts(value):
    """Whether a value is the FONTS of a machine."""
    if not isinstance(value, tuple) or not 1 <= len(value) <= 3:
        return False
    return all([is_font(font) for font in value])


def is_field(value):
    """Whether a value is one of the FIELDS of a machine."""
    return is_row(value, 2) and is_one_of(value[0], NAMES) and is_between(value[1], 1, 12)


def are_fields(value):
    """Whether a value is the FIELDS of a machine."""
    if not isinstance(value, tuple) or len(value) > len(NAMES):
        return False
    if not all([is_field(field) for field in value]):
        return False
    names = [name for name, _ in value]
    return all([one < other for one, other in zip(names, names[1:])])


def need_machine(thing):
    """Give a MACHINE back; refuse anything else with its first wrong part."""
    if not is_row(thing, 3):
        raise BadMachine("form")
    if not is_size(thing[0]):
        raise BadMachine("size")
    if not are_fonts(thing[1]):
        raise BadMachine("fonts")
    if not are_fields(thing[2]):
        raise BadMachine("fields")
    return thing


def is_part(machine, kind, value):
    """Whether a value is of one of the kinds of which settings and commands are made."""
    if kind == "origin":
        return is_whole(value)
    if kind == "place":
        return is_between(value, -FARTHEST, FARTHEST)
    if kind == "length":
        return is_between(value, 1, 40)
    if kind == "turn":
        return is_between(value, 0, 3)
    if kind == "font":
        return is_between(value, 0, len(machine[1]) - 1)
    if kind == "scale":
        return is_between(value, 1, 3)
    if kind == "ink":
        return is_one_of(value, INKS)
    return is_one_of(value, [name for name, _ in machine[2]])


def are_parts(machine, kinds, value):
    """Whether a value is a tuple of things of these kinds, one of each."""
    if not is_row(value, len(kinds)):
        return False
    return all([is_part(machine, kind, part) for kind, part in zip(kinds, value)])


def fits_command(machine, value):
    """Whether any value is a COMMAND, of a machine that has been looked at."""
    if not isinstance(value, tuple) or len(value) == 0:
        return False
    word = value[0]
    if not isinstance(word, str) or word not in COMMAND_KINDS:
        return False
    return are_parts(machine, COMMAND_KINDS[word], value[1:])


def is_settings(machine, value):
    """Whether any value is SETTINGS."""
    need_machine(machine)
    return are_parts(machine, SETTING_KINDS, value)


def is_command(machine, value):
    """Whether any value is a COMMAND."""
    need_machine(machine)
    return fits_command(machine, value)


def need_settings(machine, settings):
    """Refuse what is no MACHINE, then what are no SETTINGS."""
    if not is_settings(machine, settings):
        raise OutOfPlace("these are no settings of the machine")


def need_program(machine, program):
    """Refuse what is no PROGRAM of a machine that has been looked at."""
    if not isinstance(program, tuple) or len(program) > MOST_COMMANDS:
        raise BadProgram(None)
    for number, command in enumerate(program):
        if not fits_command(machine, command):
            raise BadProgram(number)


def need_start(machine, settings, program):
    """Refuse what is no MACHINE, then what are no SETTINGS, then what is no PROGRAM."""
    need_settings(machine, settings)
    need_program(machine, program)


def settings_after(settings, command):
    """The SETTINGS behind one command."""
    word = command[0]
    if word == "plain":
        return PLAIN
    if word == "home":
        return command[1:] + settings[2:]
    if word == "move":
        return (settings[0] + command[1], settings[1] + command[2]) + settings[2:]
    if word in SETTING_PLACES:
        at = SETTING_PLACES[word]
        return settings[:at] + command[1:] + settings[at + 1:]
    return settings


def steps(settings, program):
    """A list of pairs: the SETTINGS with which each command is done, and the command."""
    done = []
    for command in program:
        done.append((settings, command))
        settings = settings_after(settings, command)
    return done


def settings_behind(machine, settings, program):
    """The SETTINGS that a PROGRAM begun with SETTINGS leaves behind."""
    need_start(machine, settings, program)
    for command in program:
        settings = settings_after(settings, command)
    return settings


def strokes(machine, settings, program):
    """A list of triples (AREA, SETTINGS, COMMAND) of what is drawn on the label, in turn."""
    found = []
    for now, command in steps(settings, program):
        if command[0] in DRAWING:
            area = visible(machine, now, command, signs_of(machine, command))
            if area is not None:
                found.append((area, now, command))
    return found


def is_drawn(value, wide, high):
    """Whether a value is a tuple of so many strings of so many black and white signs."""
    if not is_row(value, high) or not all([isinstance(row, str) for row in value]):
        return False
    return all([len(row) == wide and row.strip("#.") == "" for row in value])


def is_glyphs(machine, field, number, value):
    """Whether a value tells the GLYPH DOTS of a field in the font with a number."""
    if not is_row(value, 3) or not isinstance(value[0], str) or not is_whole(value[1]):
        return False
    cell, tall = machine[1][number]
    name, most = field
    return value[:2] == (name, number) and is_drawn(value[2], most * cell, tall)


def is_look(machine, value):
    """Whether any value is a LOOK."""
    need_machine(machine)
    wanted = [(field, number) for field in machine[2] for number in range(len(machine[1]))]
    if not is_row(value, len(wanted)):
        return False
    return all([is_glyphs(machine, field, number, part) for (field, number), part in zip(wanted, value)])


def is_black(shapes, source):
    """Whether a SOURCE is black, shapes having the ROWS of each name and font."""
    if source == ():
        return True
    name, font, column, row = source
    return shapes[name, font][row][column] == "#"


def recolour(shapes, write, colour):
    """The colour, 0 or 1, that a dot of a colour has behind a WRITE."""
    if write[0] == "clear":
        return 0
    if not is_black(shapes, write[1]):
        return colour
    if write[0] == "set":
        return 1
    return 1 - colour


def paint(rows, stroke, shapes):
    """Change the colours in rows as one stroke does."""
    (left, top, right, bottom), settings, command = stroke
    for y in range(top, bottom + 1):
        for x in range(left, right + 1):
            write = write_of(settings, command, (x, y))
            rows[y][x] = recolour(shapes, write, rows[y][x])


def printed(machine, settings, program, look):
    """The PICTURE that a PROGRAM begun with SETTINGS prints by a LOOK."""
    need_start(machine, settings, program)
    if not is_look(machine, look):
        raise OutOfPlace("this is no look of the machine")
    wide, high = machine[0]
    rows = [[0] * wide for _ in range(high)]
    shapes = {(name, font): drawn for name, font, drawn in look}
    for stroke in strokes(machine, settings, program):
        paint(rows, stroke, shapes)
    return tuple(["".join(["#" if colour == 1 else "." for colour in row]) for row in rows])
