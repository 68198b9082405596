"""Spots of a label, from whatever ORIGIN, at which two programs are not alike."""

from labelhouse.dots import parting_writes
from labelhouse.stands import index_at, live_marks, writes_there
from labelhouse.stretches import mask_of, pair_bit, stretches


def middle_mask(marks, others):
    """The bits of the stands of two lists of marks, but for what both begin with and what both end with."""
    most = min(len(marks), len(others))
    first = 0
    while first < most and marks[first] == others[first]:
        first += 1
    last = 0
    while last < most - first and marks[-1 - last] == others[-1 - last]:
        last += 1
    middle = marks[first:len(marks) - last] + others[first:len(others) - last]
    return mask_of(sorted(set([number for _, number in middle])))


def crossing_pairs(stands):
    """A list of triples: two fields of one name and font, the second one turned across, and their bits."""
    return [
        (one, other, mask_of([one, other]))
        for one, stand in enumerate(stands) if stand[4] != () and not stand[4][2]
        for other, far in enumerate(stands) if far[4] == (stand[4][0], stand[4][1], True)
    ]


def places_of(stands, pairs, blocks):
    """A list of places of blocks, as many as can be unlike for the pairs."""
    kinds = set([stands[number][0] for one, other, _ in pairs for number in (one, other)])
    found = []
    for low, high, near, far in blocks:
        # What the pairs do not hang on is the same at all places of a block.
        last_dot = high if False in kinds else low
        last_far = far if True in kinds else near
        for dot in range(low, last_dot + 1):
            for away in range(near, last_far + 1):
                found.append((dot, away))
    return found


def crossed_spots(stands, pairs, xs, ys):
    """A dict of the spots at which two fields of a pair have the same GLYPH DOT."""
    along = {}
    for x in xs:
        for one, other, _ in pairs:
            key = (one, other, index_at(stands[one], 1, x), index_at(stands[other], 1, x))
            along.setdefault(key, []).append(x)
    found = {}
    for y in ys:
        for one, other, _ in pairs:
            # The columns of the first field go along X, those of the second one along Y.
            key = (one, other, index_at(stands[other], 2, y), index_at(stands[one], 2, y))
            for x in along.get(key, []):
                found[x, y] = True
    return found


def other_spot(xs, ys, spots):
    """The first spot that is none of some spots, or None."""
    for x in xs:
        for y in ys:
            if (x, y) not in spots:
                return x, y
    return None


def samples(stands, pairs, x_blocks, y_blocks):
    """A list of spots, as many as can be unlike, of stretches along X and along Y."""
    if len(pairs) == 0:
        x, y = x_blocks[0], y_blocks[0]
        return [((x[0], x[2]), (y[0], y[2]))]
    xs, ys = places_of(stands, pairs, x_blocks), places_of(stands, pairs, y_blocks)
    crossed = crossed_spots(stands, pairs, xs, ys)
    plain = other_spot(xs, ys, crossed)
    if plain is None:
        return list(crossed)
    return list(crossed) + [plain]


def by_number(marks):
    """Live marks as WRITES with the number of a stand instead of each GLYPH DOT."""
    return tuple([(word, () if number < 0 else number) for word, number in marks])


def live_rows(stands, rows, mask, known):
    """What counts where just the stands of a mask are: a triple (ROWS, FIELDS, KIN), or None if all is ALIKE there.

    ROWS are the live marks of both programs, FIELDS has the bits of their fields, KIN those of the pairs of a kind.
    """
    one, other = [live_marks(stands, marks, mask) for marks in rows]
    # What is ALIKE with a GLYPH DOT of its own for each stand is so too where some stands have the same one.
    if parting_writes(by_number(one), by_number(other), known) is None:
        return None
    numbers = sorted(set([number for _, number in one + other if number >= 0]))
    kin = [
        pair_bit(stands, number, far)
        for at, number in enumerate(numbers)
        for far in numbers[at + 1:]
        if stands[number][4] == stands[far][4]
    ]
    return (one, other), mask_of(numbers), sum(kin)


def unlike_sample(stands, rows, spots, known):
    """The first of some spots at which two lists of live marks are unlike, and what is black there; or None."""
    for spot in spots:
        black = parting_writes(writes_there(stands, rows[0], spot), writes_there(stands, rows[1], spot), known)
        if black is not None:
            return spot, black
    return None


def unlike_cell(stands, live, crossing, xs, ys, known):
    """As unlike_spot, where stretches along X and stretches along Y of the same stands meet."""
    rows, fields, kin = live
    pairs = [pair for pair in crossing if fields & pair[2] == pair[2]]
    seen = {}
    for x_same, x_blocks in xs.items():
        for y_same, y_blocks in ys.items():
            same = x_same & y_same & kin
            if len(pairs) == 0 and same in seen:
                continue
            seen[same] = True
            found = unlike_sample(stands, rows, samples(stands, pairs, x_blocks, y_blocks), known)
            if found is not None:
                return found
    return None


def unlike_spot(stands, rows, size, known):
    """A spot of labels of a SIZE at which two lists of marks are unlike, and what is black there; or None.

    What is black are the GLYPH DOTS that alone are black in a LOOK that parts them.
    """
    wanted = middle_mask(rows[0], rows[1])
    if wanted == 0:
        return None
    crossing = crossing_pairs(stands)
    live = {}
    columns = stretches(stands, 1, size[0], wanted)
    rows_of_dots = stretches(stands, 2, size[1], wanted)
    for x_mask, xs in columns.items():
        for y_mask, ys in rows_of_dots.items():
            mask = x_mask & y_mask
            if mask & wanted == 0:
                continue
            if mask not in live:
                live[mask] = live_rows(stands, rows, mask, known)
            if live[mask] is not None:
                found = unlike_cell(stands, live[mask], crossing, xs, ys, known)
                if found is not None:
                    return found
    return None
