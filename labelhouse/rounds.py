"""What a program makes of settings, and what it prints when it is done label after label."""

from labelhouse.commands import (
    DRAWING, PLAIN, SETTING_KINDS, SETTING_PLACES, is_part, is_settings, need_machine, need_program, need_start,
    printed, steps, strokes,
)
from labelhouse.dots import parting_writes, unlike_dot
from labelhouse.drawing import reach, signs_of, write_of
from labelhouse.errors import OutOfPlace
from labelhouse.values import is_between, is_one_of, is_row, is_whole

MOST_TIMES = 10 ** 30
KEPT = ("kept", 0)
NO_EFFECT = (("kept", 0), ("kept", 0), ("kept", 0), ("kept", 0), ("kept", 0), ("kept", 0))
# Settings are those of some machine if they are those of one with as many fonts as there may be.
SOME_MACHINE = ((1, 1), ((1, 1), (1, 1), (1, 1)), ())


def added_to(pair, added):
    """A pair of an EFFECT with so much more added."""
    return pair[0], pair[1] + added


def effect_behind(value, command):
    """The EFFECT of a command behind what has an EFFECT."""
    word = command[0]
    if word == "plain":
        return tuple([("told", setting) for setting in PLAIN])
    if word == "home":
        return (("told", command[1]), ("told", command[2])) + value[2:]
    if word == "move":
        return (added_to(value[0], command[1]), added_to(value[1], command[2])) + value[2:]
    if word in SETTING_PLACES:
        at = SETTING_PLACES[word]
        return value[:at] + (("told", command[1]),) + value[at + 1:]
    return value


def effect_of(program):
    """The EFFECT of a PROGRAM that has been looked at."""
    value = NO_EFFECT
    for command in program:
        value = effect_behind(value, command)
    return value


def effect(machine, program):
    """The EFFECT of a PROGRAM."""
    need_machine(machine)
    need_program(machine, program)
    return effect_of(program)


def is_effect_pair(at, pair):
    """Whether a pair tells or keeps the setting at a place of SETTINGS."""
    if not is_row(pair, 2) or not is_one_of(pair[0], ("told", "kept")):
        return False
    word, thing = pair
    if word == "told":
        return is_part(SOME_MACHINE, SETTING_KINDS[at], thing)
    return is_whole(thing) and (at < 2 or thing == 0)


def need_effect(value):
    """Refuse what has not the form of an EFFECT."""
    if not is_row(value, len(SETTING_KINDS)):
        raise OutOfPlace("an effect is a tuple of six pairs")
    for at, pair in enumerate(value):
        if not is_effect_pair(at, pair):
            raise OutOfPlace("this is no pair of an effect")


def joined_pair(pair, behind):
    """What two EFFECTS tell of one setting, one behind the other."""
    if behind[0] == "told":
        return behind
    if behind == KEPT:
        return pair
    return added_to(pair, behind[1])


def joined(one, other):
    """The EFFECT of two PROGRAMS one behind the other, told by theirs."""
    need_effect(one)
    need_effect(other)
    return tuple([joined_pair(pair, behind) for pair, behind in zip(one, other)])


def repeated_effect(value, times):
    """The EFFECT of so many PROGRAMS with an EFFECT, of what has been looked at."""
    if times == 0:
        return NO_EFFECT
    return tuple([(word, thing if word == "told" else thing * times) for word, thing in value])


def repeated(value, times):
    """The EFFECT of so many PROGRAMS with an EFFECT one behind the other."""
    need_effect(value)
    if not is_between(times, 0, MOST_TIMES):
        raise OutOfPlace("this is no number of times")
    return repeated_effect(value, times)


def led_setting(pair, setting):
    """What a pair of an EFFECT makes of its setting."""
    if pair[0] == "told":
        return pair[1]
    if pair == KEPT:
        return setting
    return setting + pair[1]


def led(value, settings):
    """The SETTINGS behind what has an EFFECT, of what has been looked at."""
    return tuple([led_setting(pair, setting) for pair, setting in zip(value, settings)])


def led_by(value, settings):
    """The SETTINGS that a PROGRAM with an EFFECT leaves behind."""
    need_effect(value)
    if not is_settings(SOME_MACHINE, settings):
        raise OutOfPlace("these are no settings of some machine")
    return led(value, settings)


def label_at(machine, settings, program, look, number):
    """The PICTURE of the LABEL with a number of a PROGRAM that is done again and again."""
    need_start(machine, settings, program)
    if not is_between(number, 0, MOST_TIMES):
        raise OutOfPlace("this is no number of a label")
    return printed(machine, led(repeated_effect(effect_of(program), number), settings), program, look)


def last_time(first, step, size):
    """How often a place along an axis goes on by a step at most to be on the label.

    None if it is not there at any time from 0 on, or if it stays there.
    """
    if step < 0:
        first, step = size - 1 - first, -step
    if step == 0 or first >= size:
        return None
    return (size - 1 - first) // step


def is_at_label(machine, dot, added, times):
    """Whether a dot that has gone on so many times is on the label."""
    wide, high = machine[0]
    return 0 <= dot[0] + times * added[0] < wide and 0 <= dot[1] + times * added[1] < high


def last_seen(machine, dot, added):
    """How often a dot goes on, to be on the label for the last time; None if it never is."""
    times = [
        time for time in [last_time(dot[axis], added[axis], machine[0][axis]) for axis in (0, 1)] if time is not None
    ]
    if len(times) == 0 or not is_at_label(machine, dot, added, min(times)):
        return None
    return min(times)


def writes_anywhere(machine, settings, program):
    """A dict: each dot that a PROGRAM reaches, on the label or not, with the list of its WRITES."""
    found = {}
    for now, command in steps(settings, program):
        if command[0] in DRAWING:
            left, top, right, bottom = reach(machine, now, command, signs_of(machine, command))
            for x in range(left, right + 1):
                for y in range(top, bottom + 1):
                    found.setdefault((x, y), []).append(write_of(now, command, (x, y)))
    return found


def last_marked(machine, settings, program, added):
    """How often a PROGRAM that goes on from SETTINGS can print a label with a black dot for the last time, or None."""
    told = writes_anywhere(machine, settings, program)
    times = [(last_seen(machine, dot, added), dot) for dot in told]
    known = {}
    for time, dot in sorted([(time, dot) for time, dot in times if time is not None], reverse=True):
        if parting_writes(tuple(told[dot]), (), known) is not None:
            return time
    return None


def steady(machine, settings, program):
    """The number of the LABEL from which on all LABELS of a PROGRAM done again and again are ALIKE."""
    need_start(machine, settings, program)
    value = effect_of(program)
    behind = led(value, settings)
    added = [0 if word == "told" else thing for word, thing in value[:2]]
    drawn = strokes(machine, settings, program)
    if added == [0, 0]:
        return 0 if unlike_dot(machine, drawn, strokes(machine, behind, program)) is None else 1
    # All that it draws goes on with the origin, so the labels at which it has passed are white.
    time = last_marked(machine, behind, program, added)
    if time is not None:
        return time + 2
    return 0 if unlike_dot(machine, drawn, []) is None else 1
