import unittest

from labelhouse import errors

# Each class, the one it derives from straight, the names of its arguments, and whether these are fields.
TOLD = (
    ("BadMachine", ValueError, ("part",), True),
    ("BadProgram", ValueError, ("number",), True),
    ("BadBook", ValueError, ("part",), True),
    ("BadPaper", ValueError, ("part",), True),
    ("BadText", ValueError, ("line",), True),
    ("OutOfPlace", ValueError, ("text",), False),
    ("TooGreat", OverflowError, ("most",), True),
    ("Nothing", LookupError, ("text",), False),
    ("BadCounter", ValueError, ("number",), True),
    ("BadRun", ValueError, ("part",), True),
    ("BadSheet", ValueError, ("value",), True),
    ("BadLengths", ValueError, ("number",), True),
    ("BadDesire", ValueError, ("number",), True),
    ("BadStore", ValueError, ("number", "item"), True),
    ("Empty", LookupError, ("rest",), True),
)

THINGS = (
    None, True, 0, -7, 3.5, "size", "", b"x", (), (1, 2), [], [[]], {}, {1}, object(), len, int, 10 ** 6000,
    ValueError("x"),
)


class ErrorsTest(unittest.TestCase):
    def test_keeps_what_it_is_made_of(self):
        for name, _, fields, kept in TOLD:
            made = getattr(errors, name)
            for at, thing in enumerate(THINGS):
                things = [THINGS[(at + k) % len(THINGS)] for k in range(len(fields))]
                by_place, by_name = made(*things), made(**dict(zip(fields, things)))
                for field, held in zip(fields, things):
                    if kept:
                        self.assertIs(getattr(by_place, field), held, (name, field))
                        self.assertIs(getattr(by_name, field), held, (name, field))

    def test_takes_just_what_is_told(self):
        for name, _, fields, _ in TOLD:
            made = getattr(errors, name)
            with self.assertRaises(TypeError):
                made()
            with self.assertRaises(TypeError):
                made(*fields, 1)

    def test_objects_do_not_share_fields(self):
        one, other = errors.BadStore(1, 2), errors.BadStore(None, None)
        self.assertEqual((one.number, one.item, other.number, other.item), (1, 2, None, None))

    def test_derives_straight(self):
        for name, base, _, _ in TOLD:
            self.assertEqual(getattr(errors, name).__bases__, (base,), name)
            self.assertEqual(getattr(errors, name).__module__, "labelhouse.errors")

    def test_none_is_another_one(self):
        classes = [getattr(errors, name) for name, _, _, _ in TOLD]
        for one in classes:
            for other in classes:
                self.assertEqual(issubclass(one, other), one is other)

    def test_caught_by_its_own_class_alone(self):
        for name, base, fields, _ in TOLD:
            made = getattr(errors, name)
            others = tuple(getattr(errors, other) for other, _, _, _ in TOLD if other != name)
            error = made(*fields)
            for catcher in (made, base):
                try:
                    raise error
                except others:
                    self.fail(name)
                except catcher as caught:
                    self.assertIs(caught, error)


if __name__ == "__main__":
    unittest.main()
