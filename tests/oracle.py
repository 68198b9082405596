"""The promises on commands and dots, read point by point, slowly and plainly.

Nothing here is shared with the program: the tests hold the one beside the other.
"""

from itertools import combinations

PLAIN = (0, 0, 0, 0, 1, "set")


def after(settings, command):
    x, y, turn, font, scale, ink = settings
    word = command[0]
    if word == "home":
        x, y = command[1], command[2]
    if word == "move":
        x, y = x + command[1], y + command[2]
    if word == "turn":
        turn = command[1]
    if word == "font":
        font = command[1]
    if word == "scale":
        scale = command[1]
    if word == "ink":
        ink = command[1]
    if word == "plain":
        return PLAIN
    return (x, y, turn, font, scale, ink)


def behind(settings, program):
    for command in program:
        settings = after(settings, command)
    return settings


def local_points(machine, settings, command, signs=None):
    """Pairs of a local point and the GLYPH DOT or () that stands there."""
    word, x, y = command[:3]
    if word in ("box", "clear"):
        return [((x + i, y + j), ()) for i in range(command[3]) for j in range(command[4])]
    name, font, scale = command[3], settings[3], settings[4]
    cell, tall = machine[1][font]
    if signs is None:
        signs = dict(machine[2])[name]
    return [
        ((x + i * scale + a, y + j * scale + b), (name, font, i, j))
        for i in range(signs * cell)
        for j in range(tall)
        for a in range(scale)
        for b in range(scale)
    ]


def stand(settings, point):
    ox, oy, turn = settings[:3]
    px, py = point
    return [(ox + px, oy + py), (ox - py, oy + px), (ox - px, oy - py), (ox + py, oy - px)][turn]


def placed(machine, settings, command, signs=None):
    """Pairs of a dot, on the label or not, and what stands there."""
    return [(stand(settings, point), source) for point, source in local_points(machine, settings, command, signs)]


def on_label(machine, dot):
    return 0 <= dot[0] < machine[0][0] and 0 <= dot[1] < machine[0][1]


def draws(command):
    return command[0] in ("box", "clear", "field")


def all_writes(machine, settings, program):
    """A dict: the list of the WRITES of each dot of the label."""
    wide, high = machine[0]
    found = {(x, y): [] for x in range(wide) for y in range(high)}
    for command in program:
        if draws(command):
            for dot, source in placed(machine, settings, command):
                if dot in found and command[0] == "clear":
                    found[dot].append(("clear",))
                elif dot in found:
                    found[dot].append((settings[5], source))
        settings = after(settings, command)
    return found


def colour(writes, black):
    """0 or 1: a dot by its WRITES, black being the set of the black GLYPH DOTS."""
    now = 0
    for write in writes:
        if write[0] == "clear":
            now = 0
        elif write[1] == () or write[1] in black:
            now = 1 if write[0] == "set" else 1 - now
    return now


def black_of(look):
    return {
        (name, font, i, j)
        for name, font, rows in look
        for j, row in enumerate(rows)
        for i, sign in enumerate(row)
        if sign == "#"
    }


def look_of(machine, black):
    return tuple(
        (name, font, tuple(
            "".join("#" if (name, font, i, j) in black else "." for i in range(most * cell)) for j in range(tall)
        ))
        for name, most in machine[2]
        for font, (cell, tall) in enumerate(machine[1])
    )


def picture(machine, settings, program, look):
    found = all_writes(machine, settings, program)
    black = black_of(look)
    wide, high = machine[0]
    return tuple("".join(".#"[colour(found[x, y], black)] for x in range(wide)) for y in range(high))


def blacks(dots):
    """Every set of some of these dots: all LOOKS of them."""
    dots = sorted(dots)
    return [set(some) for many in range(len(dots) + 1) for some in combinations(dots, many)]


def dots_in_writes(writes):
    return {write[1] for write in writes if len(write) == 2 and write[1] != ()}


def dots_in_list(told):
    branches, last = told
    return {dot for dot, _ in branches} | {dot for _, parity in branches for dot in parity[0]} | set(last[0])


def colour_by_list(told, black):
    branches, last = told
    for dot, parity in branches:
        if dot in black:
            return by_parity(parity, black)
    return by_parity(last, black)


def by_parity(parity, black):
    glyphs, odd = parity
    return (odd + len([dot for dot in glyphs if dot in black])) % 2


def seen(machine, settings, command, signs=None):
    """The set of the dots of the label that a command reaches."""
    return {dot for dot, _ in placed(machine, settings, command, signs) if on_label(machine, dot)}


def is_cut(machine, settings, command, signs=None):
    return not all(on_label(machine, dot) for dot, _ in placed(machine, settings, command, signs))


def most_signs(machine, command):
    return dict(machine[2])[command[3]] if command[0] == "field" else 1


def settings_at(settings, program, number):
    return behind(settings, program[:number])


def cuts(machine, settings, program):
    found = []
    for number, command in enumerate(program):
        now = settings_at(settings, program, number)
        least = None
        if draws(command):
            numbers = range(1, most_signs(machine, command) + 1)
            least = min([signs for signs in numbers if is_cut(machine, now, command, signs)], default=None)
        found.append(least)
    return tuple(found)


def least_pairs(machine, settings, program, first, last):
    one, other = program[first], program[last]
    ones = [set()] + [
        seen(machine, settings_at(settings, program, first), one, n + 1) for n in range(most_signs(machine, one))
    ]
    others = [set()] + [
        seen(machine, settings_at(settings, program, last), other, m + 1) for m in range(most_signs(machine, other))
    ]

    def meet(n, m):
        return len(ones[n] & others[m]) > 0

    return tuple(
        (n, m)
        for n in range(1, len(ones))
        for m in range(1, len(others))
        if meet(n, m) and not meet(n - 1, m) and not meet(n, m - 1)
    )


def room(machine, settings, program, far):
    """The ROOM by trying all ORIGINS up to far from (0, 0)."""
    fits = [
        (x, y)
        for x in range(-far, far + 1)
        for y in range(-far, far + 1)
        if all(cut is None for cut in whole_cuts(machine, (x, y) + settings[2:], program))
    ]
    if not fits:
        return None
    xs, ys = [x for x, _ in fits], [y for _, y in fits]
    area = (min(xs), min(ys), max(xs), max(ys))
    assert len(fits) == (area[2] - area[0] + 1) * (area[3] - area[1] + 1)
    return area


def whole_cuts(machine, settings, program):
    for command in program:
        if draws(command) and is_cut(machine, settings, command):
            yield command
        settings = after(settings, command)


def unlike(one, other):
    """Whether some LOOK tells two rows of WRITES apart."""
    if one == other:
        return False
    return any(colour(one, black) != colour(other, black) for black in blacks(dots_in_writes(one) | dots_in_writes(other)))


def unlike_dots(machine, settings, one, settings_of_other, other):
    """The dots, row by row, at which two programs, each begun with its settings, can print something else."""
    ones, others = all_writes(machine, settings, one), all_writes(machine, settings_of_other, other)
    wide, high = machine[0]
    return [(x, y) for y in range(high) for x in range(wide) if unlike(ones[x, y], others[x, y])]


USES = {
    "box": ("x", "y", "turn", "ink"), "clear": ("x", "y", "turn"), "field": ("x", "y", "turn", "font", "scale", "ink"),
}
TELLS = {
    "home": ("x", "y"), "plain": ("x", "y", "turn", "font", "scale", "ink"),
    "turn": ("turn",), "font": ("font",), "scale": ("scale",), "ink": ("ink",),
}


def reads(program):
    found = set()
    for number, command in enumerate(program):
        for name in USES.get(command[0], ()):
            if not any(name in TELLS.get(ahead[0], ()) for ahead in program[:number]):
                found.add(name)
    return tuple(sorted(found))


def reach_of(machine, one, other):
    """So far from (0, 0) that from an ORIGIN farther away nothing that hangs on it is on the label."""
    places = sum(abs(command[1]) + abs(command[2]) for command in one + other if len(command) >= 3)
    lengths = [command[3] + command[4] for command in one + other if command[0] in ("box", "clear")]
    fields = [3 * most * cell + 3 * tall for _, most in machine[2] for cell, tall in machine[1]]
    return places + sum(machine[0]) + max(lengths + fields + [0])


def some_starts(machine, one, other):
    """All SETTINGS that are enough to tell whether two programs are alike."""
    names = set(reads(one)) | set(reads(other))
    far = reach_of(machine, one, other)
    places = [(x, y) for x in range(-far, far + 1) for y in range(-far, far + 1)] if "x" in names else [(0, 0)]
    return [
        place + (turn, font, scale, ink)
        for turn in (range(4) if "turn" in names else (0,))
        for font in (range(len(machine[1])) if "font" in names else (0,))
        for scale in ((1, 2, 3) if "scale" in names else (1,))
        for ink in (("set", "flip") if "ink" in names else ("set",))
        for place in places
    ]


def alike(machine, one, other):
    return not any(unlike_dots(machine, start, one, start, other) for start in some_starts(machine, one, other))


def leaves_alike(machine, one, other):
    """Whether two programs leave the same behind from all settings: from some with each setting at each worth."""
    starts = [
        (x, x, turn, font, scale, ink)
        for x in (-7, 0, 99) for turn in range(4) for font in range(len(machine[1])) for scale in (1, 2, 3)
        for ink in ("set", "flip")
    ]
    return all(behind(start, one) == behind(start, other) for start in starts)
