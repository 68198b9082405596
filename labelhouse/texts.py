"""Programs as texts: a line for each command."""

from labelhouse.commands import COMMAND_KINDS, MOST_COMMANDS, fits_command, need_machine, need_program
from labelhouse.errors import BadText

MOST_FIGURES = 31
# Which things of a command are words in a line, too; all others are integers.
WORD_KINDS = ("ink", "name")


def whole_of(word):
    """The integer for which a word stands, or None."""
    figures = word[1:] if word.startswith("-") else word
    if not 1 <= len(figures) <= MOST_FIGURES or figures.strip("0123456789") != "":
        return None
    if figures.startswith("0") and word != "0":
        return None
    return int(word)


def command_of(machine, line):
    """The COMMAND for which a line stands, of a MACHINE that has been looked at; or None."""
    word, *rest = line.split(" ")
    kinds = COMMAND_KINDS.get(word, ())
    if len(rest) != len(kinds):
        return None
    parts = [part if kind in WORD_KINDS else whole_of(part) for kind, part in zip(kinds, rest)]
    command = (word, *parts)
    return command if fits_command(machine, command) else None


def line_of(command):
    """The line of a COMMAND."""
    return " ".join([str(part) for part in command])


def program_text(machine, program):
    """The text of a PROGRAM."""
    need_machine(machine)
    need_program(machine, program)
    return "\n".join([line_of(command) for command in program])


def read_program(machine, string):
    """The PROGRAM of a text; anything else is refused with the number of its first wrong line, or 0."""
    need_machine(machine)
    if not isinstance(string, str):
        raise BadText(0)
    if string == "":
        return ()
    commands = []
    for number, line in enumerate(string.split("\n"), start=1):
        command = command_of(machine, line)
        if command is None or number > MOST_COMMANDS:
            raise BadText(number)
        commands.append(command)
    return tuple(commands)
