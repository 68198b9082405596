"""need_sheet, serial_at, place_of, moves_to, many_staying and rounds: ways over a sheet."""

import unittest
from math import gcd
from random import Random

from labelhouse.errors import BadSheet, OutOfPlace, TooGreat
from labelhouse.sheets import WAYS, many_staying, moves_to, need_sheet, place_of, rounds, serial_at

from samples import ODD_THINGS

GREAT = (10 ** 18, 10 ** 18)
NO_SHEETS = ODD_THINGS + (
    [3, 4], (3,), (3, 4, 5), (0, 4), (3, 0), (-1, 4), (10 ** 18 + 1, 4), (3, 10 ** 18 + 1), (True, 4), (3, True), (3.0, 4),
    ("3", 4), (None, 4), (3, None),
)
NO_WAYS = ODD_THINGS + ("row", "Rows", "rows ", ("rows",), 0)
CALLS = (
    (need_sheet, ()), (serial_at, (None, None)), (place_of, (None, None)), (moves_to, (None, None, None)),
    (many_staying, (None, None)), (rounds, (None, None)),
)
SMALL = tuple((lanes, rows) for lanes in range(1, 8) for rows in range(1, 8)) + ((1, 30), (30, 1), (12, 9), (2, 17), (17, 2))


def places_by_hand(sheet, way):
    """All PLACES in their order."""
    lanes, rows = sheet
    found = []
    if way in ("rows", "turns"):
        for row in range(rows):
            line = [(row, lane) for lane in range(lanes)]
            found += line[::-1] if way == "turns" and row % 2 else line
    else:
        for lane in range(lanes):
            line = [(row, lane) for row in range(rows)]
            found += line[::-1] if way == "folds" and lane % 2 else line
    return found


def moves_by_hand(sheet, way, far):
    there = places_by_hand(sheet, far)
    return [there.index(place) for place in places_by_hand(sheet, way)]


def rounds_by_hand(moves):
    """Moving all SERIALS until they are where they were."""
    stands = list(moves)
    many = 1
    while stands != list(range(len(moves))):
        stands = [moves[at] for at in stands]
        many += 1
    return many


class SheetTest(unittest.TestCase):
    def test_gives_it_back(self):
        for sheet in ((1, 1), (3, 4), GREAT):
            self.assertIs(need_sheet(sheet), sheet)
        self.assertEqual(need_sheet(thing=(3, 4)), (3, 4))
        self.assertEqual(WAYS, ("folds", "lanes", "rows", "turns"))

    def test_what_is_none(self):
        for call, rest in CALLS:
            for thing in NO_SHEETS:
                with self.assertRaises(BadSheet, msg=thing) as caught:
                    call(thing, *rest)
                self.assertIs(caught.exception.value, thing)


class SmallSheetsTest(unittest.TestCase):
    def test_places(self):
        for sheet in SMALL:
            for way in WAYS:
                places = places_by_hand(sheet, way)
                self.assertEqual([place_of(sheet, way, serial) for serial in range(len(places))], places)
                self.assertEqual([serial_at(sheet, way, place) for place in places], list(range(len(places))))

    def test_moves(self):
        longest = 0
        for sheet in SMALL:
            for way in WAYS:
                for far in WAYS:
                    moves = moves_by_hand(sheet, way, far)
                    self.assertEqual([moves_to(sheet, way, far, serial) for serial in range(len(moves))], moves)
                    staying = sum(serial == move for serial, move in enumerate(moves))
                    self.assertEqual(many_staying(sheet, way, far), staying, (sheet, way, far))
                    if rounds(sheet, way, far) < 2000:
                        self.assertEqual(rounds(sheet, way, far), rounds_by_hand(moves), (sheet, way, far))
                    longest = max(longest, rounds(sheet, way, far))
        self.assertGreater(longest, 100)

    def test_facts(self):
        for sheet in SMALL:
            lanes, rows = sheet
            many = gcd(lanes - 1, rows - 1) + 1
            self.assertEqual(many_staying(sheet, "rows", "lanes"), lanes * rows if 1 in sheet else many)
            self.assertEqual(many_staying(sheet, "lanes", "rows"), lanes * rows if 1 in sheet else many)
            for serial in range(lanes * rows):
                self.assertEqual(moves_to(sheet, "rows", "turns", moves_to(sheet, "rows", "turns", serial)), serial)
            self.assertEqual(rounds(sheet, "rows", "turns"), 1 if lanes == 1 or rows == 1 else 2)
            for way in WAYS:
                self.assertEqual((many_staying(sheet, way, way), rounds(sheet, way, way)), (lanes * rows, 1))

    def test_named(self):
        self.assertEqual(serial_at((3, 4), "turns", (1, 0)), 5)
        self.assertEqual(serial_at((3, 4), "folds", (3, 1)), 4)
        self.assertEqual(place_of((3, 4), "lanes", 6), (2, 1))
        self.assertEqual(moves_to((3, 4), "rows", "lanes", 1), 4)

    def test_by_name(self):
        self.assertEqual(serial_at(sheet=(3, 4), way="rows", place=(1, 2)), 5)
        self.assertEqual(place_of(sheet=(3, 4), way="rows", serial=5), (1, 2))
        self.assertEqual(moves_to(sheet=(3, 4), way="rows", far="lanes", serial=1), 4)
        self.assertEqual(many_staying(sheet=(3, 4), way="rows", far="lanes"), 2)
        self.assertEqual(rounds(sheet=(3, 4), way="rows", far="turns"), 2)


class GreatSheetsTest(unittest.TestCase):
    def test_there_and_back(self):
        chance = Random(211)
        for sheet in (GREAT, (1, 10 ** 18), (10 ** 18, 1), (10 ** 18 - 1, 7), (2, 10 ** 18 - 3)):
            lanes, rows = sheet
            for way in WAYS:
                last = lanes * rows - 1
                for serial in [0, 1 % (last + 1), last] + [chance.randint(0, last) for _ in range(20)]:
                    row, lane = place = place_of(sheet, way, serial)
                    self.assertTrue(0 <= row < rows and 0 <= lane < lanes)
                    self.assertEqual(serial_at(sheet, way, place), serial)
                    for far in WAYS:
                        move = moves_to(sheet, way, far, serial)
                        self.assertEqual(place_of(sheet, far, move), place)
                        self.assertEqual(moves_to(sheet, far, way, move), serial)

    def test_neighbours(self):
        # The last lane of a row is beside the last lane of the next one by "turns".
        for row in (0, 1, 10 ** 17, 10 ** 18 - 2):
            lane = 10 ** 18 - 1 if row % 2 == 0 else 0
            serial = serial_at(GREAT, "turns", (row, lane))
            self.assertEqual(place_of(GREAT, "turns", serial + 1), (row + 1, lane))
            serial = serial_at(GREAT, "folds", (lane, row))
            self.assertEqual(place_of(GREAT, "folds", serial + 1), (lane, row + 1))

    def test_staying(self):
        for way in WAYS:
            self.assertEqual(many_staying(GREAT, way, way), 10 ** 36)
        for way, far in (("rows", "lanes"), ("lanes", "rows")):
            self.assertEqual(many_staying(GREAT, way, far), 10 ** 18)
            self.assertEqual(many_staying((10 ** 18, 10 ** 18 - 3), way, far), 4)
            self.assertEqual(many_staying((1, 10 ** 18), way, far), 10 ** 18)
            self.assertEqual(many_staying((10 ** 18, 1), way, far), 10 ** 18)

    def test_too_great(self):
        for sheet in (GREAT, (100001, 1), (1, 100001), (317, 316), (2, 50001)):
            for way in WAYS:
                for far in WAYS:
                    if way != far and {way, far} != {"rows", "lanes"}:
                        with self.assertRaises(TooGreat) as caught:
                            many_staying(sheet, way, far)
                        self.assertEqual(caught.exception.most, 100000)
                    with self.assertRaises(TooGreat) as caught:
                        rounds(sheet, way, far)
                    self.assertEqual(caught.exception.most, 100000)

    def test_just_not_too_great(self):
        self.assertEqual(many_staying((100000, 1), "rows", "turns"), 100000)
        self.assertEqual(many_staying((1, 100000), "folds", "turns"), 100000)
        self.assertEqual(rounds((1, 100000), "folds", "lanes"), 1)
        self.assertEqual(rounds((250, 400), "rows", "turns"), 2)
        # The SERIAL goes to its multiple by the rows, by the modulus of all but one.
        around = 1
        times = 400
        while times != 1:
            times = times * 400 % 99999
            around += 1
        self.assertEqual(rounds((250, 400), "rows", "lanes"), around)


class RefusalsTest(unittest.TestCase):
    def test_ways(self):
        for way in NO_WAYS:
            for call in (
                lambda: serial_at((3, 4), way, None), lambda: place_of((3, 4), way, None), lambda: moves_to((3, 4), way, None, None),
                lambda: serial_at((3, 4), way, (0, 0)), lambda: place_of((3, 4), way, 0), lambda: moves_to((3, 4), way, "rows", 0),
                lambda: moves_to((3, 4), "rows", way, None), lambda: moves_to((3, 4), "rows", way, 0),
                lambda: many_staying((3, 4), way, None), lambda: many_staying((3, 4), way, "rows"),
                lambda: many_staying((3, 4), "rows", way), lambda: rounds((3, 4), way, None), lambda: rounds((3, 4), way, "rows"),
                lambda: rounds((3, 4), "rows", way),
                # Whether a sheet is too great to count what stays is told by both ways.
                lambda: many_staying(GREAT, way, "turns"), lambda: many_staying(GREAT, "turns", way),
            ):
                with self.assertRaises(OutOfPlace, msg=way):
                    call()
            # A sheet that is too great to go round is refused ahead of the ways.
            with self.assertRaises(TooGreat):
                rounds(GREAT, way, None)

    def test_places(self):
        for place in ODD_THINGS + ([0, 0], (0,), (0, 0, 0), (4, 0), (0, 3), (-1, 0), (0, -1), (True, 0), (0, False), (0.0, 0), ("0", 0)):
            for way in WAYS:
                with self.assertRaises(OutOfPlace, msg=place):
                    serial_at((3, 4), way, place)
        self.assertEqual(serial_at((3, 4), "rows", (3, 2)), 11)

    def test_serials(self):
        for serial in ODD_THINGS + (-1, 12, "0"):
            for way in WAYS:
                with self.assertRaises(OutOfPlace, msg=serial):
                    place_of((3, 4), way, serial)
                with self.assertRaises(OutOfPlace, msg=serial):
                    moves_to((3, 4), way, "rows", serial)


if __name__ == "__main__":
    unittest.main()
