"""[1.1]: the errors, from what they are derived, and what they keep."""

from roomlines import errors
from tests.checks import Checks

DERIVED = ("InvalidWord", "InvalidHeight", "InvalidMachine", "InvalidReader", "InvalidRooms", "InvalidLines",
           "InvalidOrder", "InvalidOperation", "InvalidName", "ParseError")
KEEPING = (("ParseError", "spot", errors.RoomError), ("InvalidNumber", "given", IndexError),
           ("UnknownName", "wanted", KeyError), ("TooMany", "limit", OverflowError),
           ("Refused", "reason", ArithmeticError), ("NothingToUndo", "steps", LookupError))


class ErrorTests(Checks):

    def test_direct_bases(self):
        self.assertEqual(errors.RoomError.__bases__, (ValueError,))
        for name in DERIVED:
            self.assertEqual(getattr(errors, name).__bases__, (errors.RoomError,), name)
        for name, _, base in KEEPING:
            self.assertEqual(getattr(errors, name).__bases__, (base,), name)

    def test_what_is_kept(self):
        for name, kept, _ in KEEPING:
            for value in (None, 0, True, (1, 4), ("lost", 1), "left", [2], {}, 10 ** 99):
                made = getattr(errors, name)(value)
                self.assertIs(getattr(made, kept), value)
                self.assertEqual(vars(made), {kept: value})
                self.assertEqual(made.args, (value,))

    def test_one_value_must_be_given(self):
        for name, _, _ in KEEPING:
            self.fails(TypeError, getattr(errors, name))

    def test_messages(self):
        for name in DERIVED + ("RoomError",):
            if name != "ParseError":
                self.assertEqual(str(getattr(errors, name)("what it says")), "what it says")
        with self.assertRaises(ValueError):
            raise errors.InvalidWord("no word")

    def test_modules_define_what_they_list(self):
        for name in DERIVED + ("RoomError",) + tuple(name for name, _, _ in KEEPING):
            self.assertEqual(getattr(errors, name).__module__, "roomlines.errors")
