"""The places along an axis of a label, from whatever ORIGIN, put together where the same stands reach them alike.

A piece is a tuple (NUMBERS, MASK, SAME, LOW, HIGH): from LOW to HIGH just the stands with these NUMBERS, the bits of
MASK, reach an axis; SAME has a bit for each two of them that have the same number of a GLYPH DOT there.

A block is a tuple (LOW, HIGH, NEAR, FAR): all places with a dot from LOW to HIGH that is so far from the ORIGIN.
"""

from labelhouse.stands import index_at


def pair_bit(stands, one, other):
    """The bit of SAME for two stands."""
    return 1 << (min(one, other) * len(stands) + max(one, other))


def mask_of(numbers):
    """The sum of the bits of numbers that are all unlike."""
    return sum([1 << number for number in numbers])


def borders(lines, free, size):
    """The ascending list of the places at which one of some lines begins, or ends just ahead of it."""
    ends = [low for low, _ in lines] + [high + 1 for _, high in lines]
    if not free:
        return sorted(set([0, size] + [end for end in ends if 0 < end < size]))
    # One place more, behind all lines, is for the origins from which nothing is reached.
    last = max(ends, default=0)
    return sorted(set(ends + [last, last + 1]))


def same_bits(stands, axis, numbers, place):
    """The bits of each two of some stands that have the same number of a GLYPH DOT along an axis at a place."""
    same = 0
    seen = {}
    for number in numbers:
        kind = stands[number][4]
        if kind != ():
            key = (kind, index_at(stands[number], axis, place))
            for other in seen.get(key, []):
                same = same | pair_bit(stands, other, number)
            seen.setdefault(key, []).append(number)
    return same


def has_kin(stands, numbers):
    """Whether two of some stands are fields of the same kind."""
    kinds = [stands[number][4] for number in numbers if stands[number][4] != ()]
    return len(set(kinds)) < len(kinds)


def pieces(stands, axis, free, size):
    """The list of all pieces of an axis, of the stands that are free, or of those that are not."""
    lines = [
        (number, min(stand[axis]), max(stand[axis])) for number, stand in enumerate(stands) if stand[0] == free
    ]
    ends = borders([(low, high) for _, low, high in lines], free, size)
    found = []
    for low, behind in zip(ends, ends[1:]):
        numbers = [number for number, first, last in lines if first <= low <= last]
        mask = mask_of(numbers)
        if has_kin(stands, numbers):
            for at in range(low, behind):
                found.append((numbers, mask, same_bits(stands, axis, numbers, (at, at)), at, at))
        else:
            found.append((numbers, mask, 0, low, behind - 1))
    return found


def kin_masks(stands):
    """For each stand the bits of the fields of the same kind that are free while it is not, or the other way about."""
    return [
        mask_of([
            number for number, other in enumerate(stands) if other[4] == one[4] != () and other[0] != one[0]
        ])
        for one in stands
    ]


def blocks_of(stands, axis, told, free, kin):
    """A list of pairs (SAME, BLOCK) of a piece of stands that are told, one of free ones, and their pairs of a kind."""
    same = told[2] | free[2]
    if len(kin) == 0:
        return [(same, (told[3], told[4], free[3], free[4]))]
    found = []
    for dot in range(told[3], told[4] + 1):
        for far in range(free[3], free[4] + 1):
            place = (dot, far)
            equal = [
                pair_bit(stands, one, other)
                for one, other in kin
                if index_at(stands[one], axis, place) == index_at(stands[other], axis, place)
            ]
            found.append((same | sum(equal), (dot, dot, far, far)))
    return found


def stretches(stands, axis, size, wanted):
    """The places along an axis that one of the wanted stands reaches, as a dict of dicts of lists of blocks.

    The keys of the outer one are the masks, those of the inner ones the bits of SAME.
    """
    found = {}
    kin_of = kin_masks(stands)
    frees = pieces(stands, axis, True, size)
    for told in pieces(stands, axis, False, size):
        for free in frees:
            mask = told[1] | free[1]
            if mask & wanted != 0:
                kin = [
                    (one, other)
                    for one in told[0] if kin_of[one] & free[1] != 0
                    for other in free[0] if kin_of[one] >> other & 1 == 1
                ]
                held = found.setdefault(mask, {})
                for same, block in blocks_of(stands, axis, told, free, kin):
                    held.setdefault(same, []).append(block)
    return found
