"""Sheets: places in rows and lanes, and the ways in which serials go over them."""

from math import gcd, lcm

from labelhouse.errors import BadSheet, OutOfPlace, TooGreat
from labelhouse.values import is_between, is_one_of, is_row

WAYS = ("folds", "lanes", "rows", "turns")

GREATEST = 10 ** 18
MOST_PLACES = 100000


def need_sheet(thing):
    """Give a SHEET back; refuse anything else."""
    if not is_row(thing, 2) or not all([is_between(side, 1, GREATEST) for side in thing]):
        raise BadSheet(thing)
    return thing


def need_way(way):
    """Refuse what is no WAY."""
    if not is_one_of(way, WAYS):
        raise OutOfPlace("this is no way")


def need_serial(sheet, serial):
    """Refuse what is no SERIAL of a SHEET."""
    if not is_between(serial, 0, sheet[0] * sheet[1] - 1):
        raise OutOfPlace("this is no serial of the sheet")


def need_place(sheet, place):
    """Refuse what is no PLACE of a SHEET."""
    lanes, rows = sheet
    if not is_row(place, 2) or not is_between(place[0], 0, rows - 1) or not is_between(place[1], 0, lanes - 1):
        raise OutOfPlace("this is no place of the sheet")


def along(line, at, length):
    """Which one in turn a place is in a line that is gone over from its other end if its number is odd."""
    return at if line % 2 == 0 else length - 1 - at


def serial_in(sheet, way, place):
    """The SERIAL at a PLACE, of what has been looked at."""
    lanes, rows = sheet
    row, lane = place
    if way == "rows":
        return row * lanes + lane
    if way == "turns":
        return row * lanes + along(row, lane, lanes)
    if way == "lanes":
        return lane * rows + row
    return lane * rows + along(lane, row, rows)


def place_in(sheet, way, serial):
    """The PLACE of a SERIAL, of what has been looked at."""
    lanes, rows = sheet
    if way == "rows" or way == "turns":
        row, lane = divmod(serial, lanes)
        return row, (lane if way == "rows" else along(row, lane, lanes))
    lane, row = divmod(serial, rows)
    return (row if way == "lanes" else along(lane, row, rows)), lane


def serial_at(sheet, way, place):
    """The SERIAL at a PLACE."""
    need_sheet(sheet)
    need_way(way)
    need_place(sheet, place)
    return serial_in(sheet, way, place)


def place_of(sheet, way, serial):
    """The PLACE of a SERIAL."""
    need_sheet(sheet)
    need_way(way)
    need_serial(sheet, serial)
    return place_in(sheet, way, serial)


def moves_to(sheet, way, far, serial):
    """To which SERIAL a SERIAL moves from one WAY to another one."""
    need_sheet(sheet)
    need_way(way)
    need_way(far)
    need_serial(sheet, serial)
    return serial_in(sheet, far, place_in(sheet, way, serial))


def need_few_places(sheet):
    """Refuse a SHEET with too many PLACES to go over them all."""
    if sheet[0] * sheet[1] > MOST_PLACES:
        raise TooGreat(MOST_PLACES)


def moves_of(sheet, way, far):
    """The list of the SERIALS to which all SERIALS move."""
    return [serial_in(sheet, far, place_in(sheet, way, serial)) for serial in range(sheet[0] * sheet[1])]


def many_staying(sheet, way, far):
    """How many SERIALS move to themselves from one WAY to another one."""
    need_sheet(sheet)
    need_way(way)
    need_way(far)
    lanes, rows = sheet
    if way == far:
        return lanes * rows
    if (way, far) == ("rows", "lanes") or (way, far) == ("lanes", "rows"):
        # With one lane or one row this counts all of them, too.
        return gcd(lanes - 1, rows - 1) + 1
    need_few_places(sheet)
    return len([True for serial, move in enumerate(moves_of(sheet, way, far)) if serial == move])


def rings_of(moves):
    """The ascending list of the lengths, each once, of the rings in which numbers move."""
    found = {}
    passed = [False] * len(moves)
    for begin in range(len(moves)):
        length = 0
        at = begin
        while not passed[at]:
            passed[at] = True
            at = moves[at]
            length += 1
        if length > 0:
            found[length] = True
    return sorted(found)


def rounds(sheet, way, far):
    """The least number of moves, from 1 on, behind which all SERIALS are where they were."""
    need_sheet(sheet)
    need_few_places(sheet)
    need_way(way)
    need_way(far)
    around = 1
    for length in rings_of(moves_of(sheet, way, far)):
        around = lcm(around, length)
    return around
