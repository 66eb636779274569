import builtins

from tests.support import KinCase
from windowkin import errors

WINDOW_ERRORS = {
    "InvalidGraph": "place",
    "LimitExceeded": "limit",
    "OutOfRange": "number",
    "InvalidRow": "place",
    "InvalidPath": "place",
    "InvalidWidth": "number",
    "InvalidCode": "place",
    "InvalidLength": "length",
    "InvalidCount": "count",
    "GraphMismatch": None,
    "InvalidStep": None,
    "NotOneToOne": None,
    "NotOnto": None,
    "EndlessOrigins": None,
    "InvalidName": "name",
    "DuplicateName": "name",
    "CapacityExceeded": "limit",
    "InvalidCapacity": "number",
    "NameInUse": "name",
    "InvalidCommand": "position",
    "ParseError": None,
    "InvalidFile": "line",
}
ABSENT_ERRORS = {"UnknownName": "name", "EmptyHistory": None}
ALL_ERRORS = {**WINDOW_ERRORS, **ABSENT_ERRORS}


def made(name, value):
    """An error of a class, with a value for its field if it has one."""
    error = getattr(errors, name)
    return error() if ALL_ERRORS[name] is None else error(value)


class ErrorsTest(KinCase):
    def test_example(self):
        e = errors.OutOfRange(7)
        self.assertEqual([e.number, e.word], [7, "outofrange"])

    def test_there_are_24_errors_and_two_bases(self):
        self.assertEqual(len(ALL_ERRORS), 24)
        found = {name for name, value in vars(errors).items()
                 if isinstance(value, type) and value.__module__ == "windowkin.errors"}
        self.assertEqual(found, {*ALL_ERRORS, "WindowError", "Absent"})

    def test_bases(self):
        self.assertEqual(errors.WindowError.__bases__, (ValueError,))
        self.assertEqual(errors.Absent.__bases__, (LookupError,))
        for name in WINDOW_ERRORS:
            self.assertEqual(getattr(errors, name).__bases__, (errors.WindowError,), name)
        for name in ABSENT_ERRORS:
            self.assertEqual(getattr(errors, name).__bases__, (errors.Absent,), name)

    def test_no_error_is_a_subclass_of_another_one(self):
        for name in ALL_ERRORS:
            for other in ALL_ERRORS:
                kin = issubclass(getattr(errors, name), getattr(errors, other))
                self.assertEqual(kin, name == other, (name, other))

    def test_names_are_not_those_of_builtins(self):
        for name in ALL_ERRORS:
            self.assertFalse(hasattr(builtins, name), name)

    def test_fields_by_position(self):
        for name, field in ALL_ERRORS.items():
            for value in (0, -1, 10 ** 29, "golden", ""):
                if field is not None:
                    self.assertEqual(getattr(made(name, value), field), value, name)

    def test_errors_have_no_more_and_no_fewer_fields(self):
        for name, field in ALL_ERRORS.items():
            own = {"word"} if field is None else {"word", field}
            self.assertEqual(set(vars(made(name, 3))), own, name)
            error = getattr(errors, name)
            with self.assertRaises(TypeError):
                error(1) if field is None else error()
            with self.assertRaises(TypeError):
                error(1, 2)

    def test_words(self):
        for name in ALL_ERRORS:
            self.assertEqual(made(name, 3).word, name.lower())
            self.assertTrue(made(name, 3).word.isalpha())

    def test_words_of_the_bases(self):
        self.assertEqual([errors.WindowError().word, errors.Absent().word], ["windowerror", "absent"])

    def test_two_errors_of_a_class_are_independent(self):
        one = errors.InvalidGraph(1)
        errors.InvalidGraph(2)
        self.assertEqual(one.place, 1)

    def test_errors_can_be_raised_and_caught_by_their_bases(self):
        for name in WINDOW_ERRORS:
            with self.assertRaises(ValueError):
                raise made(name, 3)
        for name in ABSENT_ERRORS:
            with self.assertRaises(LookupError):
                raise made(name, 3)
