"""A desk that is told lines, and answers each of them."""

from labelhouse.clipping import cuts
from labelhouse.commands import MOST_COMMANDS, PLAIN, need_machine, settings_behind
from labelhouse.counters import need_counter
from labelhouse.dots import share
from labelhouse.errors import BadCounter, BadMachine, BadRun, OutOfPlace, TooGreat
from labelhouse.likeness import alike, needless, reads
from labelhouse.rounds import steady
from labelhouse.runs import first_again, label, need_run, times
from labelhouse.texts import command_of, whole_of

DONE = "done"
NO = "no"
NONE = "none"

# What each line has behind its word; behind "counter" there are as many words as there are dials.
LINE_KINDS = {
    "machine": ("number", "number", "number", "number"),
    "letter": ("word", "number"),
    "bare": (),
    "keep": (),
    "same": (),
    "behind": (),
    "reads": (),
    "dot": ("number", "number"),
    "cuts": (),
    "steady": (),
    "needless": (),
    "run": ("number", "number", "number", "number"),
    "label": ("number",),
    "times": ("word",),
    "again": (),
}
WANT_NOTHING = ("machine", "counter")
WANT_RUN = ("label", "times", "again")


def listed(parts):
    """The parts of an answer with single blanks between, or that there are none."""
    return " ".join([str(part) for part in parts]) if len(parts) > 0 else NONE


def set_machine(desk, parts):
    """Begin with a MACHINE with one font and no fields."""
    wide, high, cell, tall = parts
    desk._machine = need_machine(((wide, high), ((cell, tall),), ()))
    desk._program = ()
    desk._kept = None
    return DONE


def add_letter(desk, parts):
    """Give the MACHINE a field more."""
    size, fonts, fields = desk._machine
    desk._machine = need_machine((size, fonts, tuple(sorted(fields + (parts,)))))
    return DONE


def make_bare(desk, parts):
    """Make the program empty."""
    desk._program = ()
    return DONE


def keep_program(desk, parts):
    """Keep the program beside."""
    desk._kept = desk._program
    return DONE


def tell_same(desk, parts):
    """Tell whether the program and the kept one are ALIKE."""
    if desk._kept is None:
        return NO
    return "yes" if alike(desk._machine, desk._program, desk._kept) else NO


def tell_behind(desk, parts):
    """Tell the SETTINGS behind the program."""
    return listed(settings_behind(desk._machine, PLAIN, desk._program))


def tell_reads(desk, parts):
    """Tell what the program READS."""
    return listed(reads(desk._machine, desk._program))


def tell_dot(desk, parts):
    """Tell the SHARE of a dot."""
    x, y = parts
    return listed(share(desk._machine, PLAIN, desk._program, x, y))


def tell_cuts(desk, parts):
    """Tell with how many signs each command is CUT."""
    return listed(["-" if least is None else least for least in cuts(desk._machine, PLAIN, desk._program)])


def tell_steady(desk, parts):
    """Tell from which LABEL on the program is STEADY."""
    return str(steady(desk._machine, PLAIN, desk._program))


def tell_needless(desk, parts):
    """Tell the numbers of the NEEDLESS commands."""
    return listed(needless(desk._machine, desk._program))


def set_counter(desk, parts):
    """Begin with a COUNTER, without a RUN."""
    desk._counter = need_counter(parts)
    desk._run = None
    return DONE


def set_run(desk, parts):
    """Begin with a RUN of the COUNTER."""
    desk._run = need_run((desk._counter, *parts))
    return DONE


def tell_label(desk, parts):
    """Tell the TEXT of a label."""
    return label(desk._run, parts[0])


def tell_times(desk, parts):
    """Tell how many labels show a TEXT."""
    return str(times(desk._run, parts[0]))


def tell_again(desk, parts):
    """Tell the first SERIAL whose TEXT was shown before."""
    serial = first_again(desk._run)
    return NONE if serial is None else str(serial)


ANSWERS = {
    "machine": set_machine,
    "letter": add_letter,
    "bare": make_bare,
    "keep": keep_program,
    "same": tell_same,
    "behind": tell_behind,
    "reads": tell_reads,
    "dot": tell_dot,
    "cuts": tell_cuts,
    "steady": tell_steady,
    "needless": tell_needless,
    "counter": set_counter,
    "run": set_run,
    "label": tell_label,
    "times": tell_times,
    "again": tell_again,
}


def parts_of(word, rest):
    """The tuple of what a line has behind its word; None if it is not what it should have."""
    if word == "counter":
        return tuple(rest)
    kinds = LINE_KINDS[word]
    if len(rest) != len(kinds):
        return None
    parts = [whole_of(part) if kind == "number" else part for kind, part in zip(kinds, rest)]
    return None if None in parts else tuple(parts)


def has_wanted(desk, word):
    """Whether a desk has what a line with a word wants."""
    if word in WANT_NOTHING:
        return True
    if word in WANT_RUN:
        return desk._run is not None
    if word == "run":
        return desk._counter is not None
    return desk._machine is not None


def add_command(desk, line):
    """Put the COMMAND for which a line stands behind the program."""
    if len(desk._program) == MOST_COMMANDS:
        return NO
    command = command_of(desk._machine, line)
    if command is None:
        return NO
    desk._program = desk._program + (command,)
    return DONE


def answer_to(desk, line):
    """The answer to a line; what refuses it has changed nothing."""
    word, *rest = line.split(" ")
    if not has_wanted(desk, word):
        return NO
    if word not in ANSWERS:
        return add_command(desk, line)
    parts = parts_of(word, rest)
    if parts is None:
        return NO
    action = ANSWERS[word]
    return action(desk, parts)


class Desk:
    """A desk, without a machine, a program, a counter and a run at first."""

    def __init__(self):
        self._machine = None
        self._program = None
        self._kept = None
        self._counter = None
        self._run = None

    def say(self, line):
        """The answer to a line."""
        if not isinstance(line, str):
            raise OutOfPlace("a line is a string")
        try:
            return answer_to(self, line)
        except (BadCounter, BadMachine, BadRun, OutOfPlace, TooGreat):
            return NO

    @property
    def program(self):
        """The very PROGRAM; None of a desk without one."""
        return self._program
