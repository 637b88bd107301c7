"""[20.1] to [20.6]: words, endless words, machines and readers as texts."""

from random import Random

from roomlines.base.endless import Endless, endless_of
from roomlines.errors import (InvalidHeight, InvalidMachine, InvalidNumber, InvalidReader, InvalidWord, ParseError,
                              Refused, TooMany)
from roomlines.mach.least import are_alike
from roomlines.mach.machines import Machine, machine_of
from roomlines.order.readers import Reader
from roomlines.text import texts as module
from roomlines.text.texts import (is_written, read_endless, read_machine, read_reader, read_word, rows_in,
                                  write_endless, write_machine, write_reader, write_word)
from roomlines.unfold.unfolded import unfolded
from tests.checks import Checks, first_of
from tests.support import (ALL, EMPTY_WORD, EVEN, FORK, KNOWN, WEAVE, all_words, chain, lined_readers, random_machines,
                           random_readers, ring, turning_machines)
from tests.test_readers import NO_READERS
from tests.test_lines import NO_MACHINES
from tests.test_single import ENDS
from tests.test_words import NO_LETTERS, NO_WORDS_OF_2

EXAMPLES = r"""
>>> [write_word(2, (0, 1, 1)), read_word(2, "."), write_endless(Endless(2, (0, 1), tail=(1,))), read_endless(2, "(01)10") == Endless(2, (0, 1), tail=(1, 0))]
['011', (), '(01)1', True]
>>> write_machine(WEAVE)
'letters 2\n0 > 1 - good\n1 > - 0\n'
>>> [read_machine("letters 2\n\n 0  > 1 - good\n1 > - 0") == WEAVE, is_written("letters 2\n0 > 0 0 good\n"), is_written("letters 2\n0 > 0 0  good\n")]
[True, True, False]
>>> [write_reader(Reader(1, (((0, 1),), ((),)), (1,))), list(rows_in("a  b\n\nc"))]
['letters of a reader 1\n0 > 0,1\n1 > - good\n', [(0, ((0, 'a'), (3, 'b'))), (2, ((0, 'c'),))]]
>>> read_machine("letters 2\n0 > 1 - good\n")
raises ParseError((1, 4))
>>> read_word(2, "021")
raises ParseError((0, 1))
"""
NAMES = {"ALL": ALL, "EVEN": EVEN, "WEAVE": WEAVE, "FORK": FORK, "Machine": Machine}
MACHINES = (KNOWN + (ENDS,) + tuple(random_machines(201, 60)) + tuple(turning_machines(202, 15))
            + (chain(24, 4), chain(24, 1), ring(24, 2)) + tuple(random_machines(203, 6, most_rooms=24)))
READERS = tuple(random_readers(204, 50)) + tuple(lined_readers(205, 15)) + (
    Reader(1, (((0, 1),), ((),)), (1,)), Reader(4, ((tuple(range(12)),) * 4,) * 12, tuple(range(12))))
# What is no text of a kind that is read.
NO_TEXTS = (True, False, None, 0, 5, (), ("letters 1",), [], ["."], {}, {".": 1}, ALL, Endless(2, (0,)), "0" * 3001,
            " " * 3001, "\n" * 4000)
HEADS = {Machine: "letters", Reader: "letters of a reader"}
TWO_ROOMS = "letters 2\n0 > 1 - good\n1 > - 0\n"


class WordTests(Checks):

    def test_examples(self):
        self.examples(EXAMPLES, {**vars(module), **NAMES})

    def test_constants(self):
        self.assertEqual(module.MAX_TEXT, 3000)

    def test_words(self):
        for letters in (1, 2, 3, 4):
            for word in all_words(letters, 4 if letters < 3 else 3):
                text = write_word(letters, word)
                self.assertEqual(text, "".join(map(str, word)) or ".")
                self.assertEqual(read_word(letters, text), word)
        self.assertEqual((write_word(4, (0, 1, 2, 3)), read_word(4, "3210")), ("0123", (3, 2, 1, 0)))
        for many in (1, 199, 200):
            self.assertEqual((write_word(1, (0,) * many), read_word(1, "0" * many)), ("0" * many, (0,) * many))

    def test_wrong_texts_of_words(self):
        for text, at in (("", 0), ("..", 1), (".0", 1), ("0.", 1), (" 0", 0), ("0 ", 1), ("0 1", 1), ("2", 0), ("012", 2),
                         ("01\n", 2), ("\n", 0), ("\n0", 0), ("0\t", 1), ("-1", 0), ("0,1", 1), ("(0)", 0), ("a", 0),
                         ("01x10", 2), (". ", 1), (" .", 0), ("0" * 201, 200), ("0" * 3000, 200), ("0" * 200 + "x", 200),
                         ("0" * 200 + "2", 200), ("0" * 199 + "2" * 9, 199), (".\n", 1), ("9", 0), ("/", 0), ("good", 0)):
            self.fails_with(ParseError, (0, at), read_word, 2, text)
        self.fails_with(ParseError, (0, 0), read_word, 1, "1")
        self.fails_with(ParseError, (0, 3), read_word, 4, "0124")
        for value in NO_TEXTS:
            self.fails_with(ParseError, None, read_word, 2, value)

    def test_endless_words(self):
        for letters in (1, 2, 3):
            for ring_of in all_words(letters, 3)[1:]:
                for tail in all_words(letters, 2):
                    text = "(" + "".join(map(str, ring_of)) + ")" + "".join(map(str, tail))
                    told = read_endless(letters, text)
                    self.assertEqual(told, Endless(letters, ring_of, tail=tail))
                    written = write_endless(told)
                    self.assertEqual(written, "({}){}".format("".join(map(str, told.ring)), "".join(map(str, told.tail))))
                    self.assertEqual(read_endless(letters, written), told)
                    self.assertEqual(write_endless(read_endless(letters, written)), written)
        self.assertEqual((write_endless(Endless(2, (0, 1, 0, 1))), write_endless(Endless(2, (0, 1), tail=(0, 1)))), ("(01)",) * 2)
        self.assertEqual(read_endless(2, "(10)10101"), Endless(2, (0, 1)))
        ring_of = (1,) + (0,) * 199
        tail = (0,) * 199 + (1,)
        digits = ["".join(map(str, word)) for word in (ring_of, tail)]
        self.assertEqual(read_endless(2, f"({digits[0]}){digits[1]}"), Endless(2, ring_of, tail=tail))
        self.assertEqual(len(write_endless(Endless(2, ring_of, tail=tail))), 402)

    def test_long_endless_words(self):
        long = Endless(2, (0,), tail=(1,) * 200) + (0, 1) * 100
        self.assertEqual(write_endless(long), "(0)" + "1" * 200 + "01" * 100)
        self.fails_with(ParseError, (0, 203), read_endless, 2, write_endless(long))
        wide = endless_of(2, (1,) + (0,) * 200, ())
        self.assertEqual(write_endless(wide), "(1" + "0" * 200 + ")")
        self.fails_with(ParseError, (0, 201), read_endless, 2, write_endless(wide))

    def test_wrong_texts_of_endless_words(self):
        for text, at in (("", 0), (".", 0), ("0", 0), ("(", 1), ("()", 1), ("()0", 1), ("(0", 2), ("(01", 3), ("(2)", 1),
                         ("(02)", 2), ("( 0)", 1), ("(0 )", 2), ("(0) ", 3), ("(0).", 3), ("(0)2", 3), ("(0)1 0", 4),
                         ("(0)(1)", 3), ("((0))", 1), (" (0)", 0), ("(0)\n", 3), ("[0]", 0), ("(0]", 2), ("(.)", 1),
                         ("(" + "0" * 201 + ")", 201), ("(" + "0" * 200, 201), ("(0)" + "1" * 201, 203),
                         ("(0)" + "1" * 200 + "x", 203), ("(" + "0" * 2999, 201), ("\n(0)", 0), ("..(0)", 0)):
            self.fails_with(ParseError, (0, at), read_endless, 2, text)
        for value in NO_TEXTS:
            self.fails_with(ParseError, None, read_endless, 2, value)

    def test_wrong_arguments(self):
        for value in NO_LETTERS:
            self.fails_with(InvalidNumber, value, write_word, value, None)
            self.fails_with(InvalidNumber, value, write_word, value, (0,))
            self.fails_with(InvalidNumber, value, read_word, value, None)
            self.fails_with(InvalidNumber, value, read_word, value, "0")
            self.fails_with(InvalidNumber, value, read_endless, value, None)
            self.fails_with(InvalidNumber, value, read_endless, value, "(0)")
        for value in NO_WORDS_OF_2 + ((0,) * 201, Endless(2, (0,)), "01", "."):
            self.fails(InvalidWord, write_word, 2, value)
        for value in (None, True, 0, "(0)", (), (0,), [0], {}, ALL, ((0,), ())):
            self.fails(InvalidHeight, write_endless, value)


def plain_text(told):
    """The text of a machine or a reader."""
    rows = [f"{HEADS[type(told)]} {told.letters}"]
    for room, row in enumerate(told.doors):
        goals = [(() if goal is None else (goal,)) if type(told) is Machine else goal for goal in row]
        parts = [str(room), ">"] + [",".join(map(str, rooms)) or "-" for rooms in goals]
        rows.append(" ".join(parts + ["good"] * (room in told.good)))
    return "".join(row + "\n" for row in rows)


def spaced(text, dice):
    """The text with blanks put in between parts, and with empty rows and rows of blanks."""
    rows = []
    for row in text.splitlines():
        while dice.random() < 0.4:
            rows.append(" " * dice.randrange(3))
        row = row.replace(" ", " " * dice.randint(1, 3))
        rows.append(" " * dice.randrange(3) + row + " " * dice.randrange(3))
    return "\n".join(rows) + "\n" * dice.randrange(3)


class MachineTests(Checks):

    def test_machines_and_readers(self):
        for told, write, read in [(machine, write_machine, read_machine) for machine in MACHINES] + [
                (reader, write_reader, read_reader) for reader in READERS]:
            text = write(told)
            self.assertEqual(text, plain_text(told))
            self.assertEqual((read(text), type(read(text)), write(read(text))), (told, type(told), text))
            self.assertIs(is_written(text), True)
            self.assertEqual((read(text[:-1]), is_written(text[:-1])), (told, False))
            self.assertEqual((read("\n" + text), is_written("\n" + text), is_written(text + "\n")), (told, False, False))

    def test_blanks(self):
        dice = Random(206)
        for told, read in [(machine, read_machine) for machine in MACHINES] + [(reader, read_reader) for reader in READERS]:
            for _ in range(4):
                text = spaced(plain_text(told), dice)
                if len(text) <= 3000:
                    self.assertEqual(read(text), told)
                    self.assertIs(is_written(text), text == plain_text(told))

    def test_spoilt_in_one_place(self):
        for told, read, write in ((WEAVE, read_machine, write_machine), (FORK, read_machine, write_machine),
                                  (READERS[-2], read_reader, write_reader), (READERS[3], read_reader, write_reader)):
            text = plain_text(told)
            for at in range(len(text)):
                for sign in ("", " ", "\n", "0", "1", "9", "-", ">", ",", "x", "\t"):
                    spoilt = text[:at] + sign + text[at + 1:]
                    try:
                        found = read(spoilt)
                    except ParseError as error:
                        row, index = error.spot
                        rows = spoilt.split("\n")
                        self.assertTrue(row < len(rows) and 0 <= index <= len(rows[row]) or index == 0)
                    except (Refused, InvalidMachine, InvalidReader):
                        pass
                    else:
                        self.assertEqual([part for _, row in rows_in(write(found)) for _, part in row],
                                         [part for _, row in rows_in(spoilt) for _, part in row])
                        self.assertEqual(is_written(spoilt), write(found) == spoilt)

    def test_spots_of_wrong_machines(self):
        for text, spot in (("", (0, 0)), ("\n", (1, 0)), ("\n\n", (2, 0)), ("  ", (1, 0)), (" \n ", (2, 0)),
                           ("letters", (0, 7)), ("letters  ", (0, 9)), ("letters 2", (1, 0)), ("letters 2\n", (1, 0)),
                           ("letters 2\n\n", (2, 0)), ("letters 2\n ", (2, 0)), ("\n letters 2 \n\n\n", (4, 0)),
                           ("letter 2\n", (0, 0)), ("Letters 2\n", (0, 0)), (" x letters 2", (0, 1)), ("letters2", (0, 0)),
                           ("letters 0\n", (0, 8)), ("letters 5\n", (0, 8)), ("letters 02\n", (0, 8)), ("letters 12", (0, 8)),
                           ("letters -1", (0, 8)), ("letters 2 2\n", (0, 10)), ("letters 2 good", (0, 10)),
                           ("letters two", (0, 8)), ("letters\t2", (0, 0)), ("letters 2\t", (0, 8)), ("\tletters 2", (0, 0)),
                           ("letters of a reader 2\n0 > - 0 good\n", (0, 8)),
                           ("0 > 0 0 good\n", (0, 0)), ("letters 2\n1 > 0 0 good\n", (1, 0)), ("letters 2\n00 > 0 0", (1, 0)),
                           ("letters 2\n0 > 0 0 good\n2 > 0 0", (2, 0)), ("letters 2\n0 > 0 0 good\n0 > 0 0", (2, 0)),
                           ("letters 2\n0 > 0 0 good\n\n  01 > 0 0", (3, 2)), ("letters 2\n0", (1, 1)), ("letters 2\n0  ", (1, 3)),
                           ("letters 2\n0 0 0 good", (1, 2)), ("letters 2\n0> 0 0 good", (1, 0)), ("letters 2\n0 >0 0 good", (1, 2)),
                           ("letters 2\n0 >", (1, 3)), ("letters 2\n0 > 0", (1, 5)), ("letters 2\n0 > 0 \n1 > 0 0", (1, 6)),
                           ("letters 2\n0 > 0 good", (1, 6)), ("letters 2\n0 > 0 0 Good", (1, 8)), ("letters 2\n0 > 0 0 0", (1, 8)),
                           ("letters 2\n0 > 0 0 good good", (1, 13)), ("letters 2\n0 > 0 0 good.", (1, 8)),
                           ("letters 2\n0 > 0 0 good -", (1, 13)), ("letters 2\n0 > x 0", (1, 4)), ("letters 2\n0 > 0 x", (1, 6)),
                           ("letters 2\n0 > 00 0", (1, 4)), ("letters 2\n0 > 01 0", (1, 4)), ("letters 2\n0 > -1 0", (1, 4)),
                           ("letters 2\n0 > +0 0", (1, 4)), ("letters 2\n0 > -- 0", (1, 4)), ("letters 2\n0 > 0,0 0", (1, 4)),
                           ("letters 2\n0 > 0,1 0\n1 > 0 0 good", (1, 4)), ("letters 2\n0 > 0, 0", (1, 4)),
                           ("letters 2\n0 > None 0", (1, 4)), ("letters 2\n0 > 400 0 good", (1, 4)),
                           ("letters 2\n0 > 1000 0 good", (1, 4)), ("letters 2\n0 > " + "9" * 900 + " 0", (1, 4)),
                           ("letters 2\n0 >  0  0\tgood", (1, 8)), ("letters 1\n0 > 0 good\nx", (2, 0)),
                           ("letters 1\n0 > 0 good\n\t", (2, 0)), ("letters 1\n0 > 0 good;", (1, 6))):
            self.fails_with(ParseError, spot, read_machine, text)
            self.assertIs(is_written(text), "reader" in text)

    def test_goals_that_are_no_told_rooms(self):
        for text, spot in (("letters 2\n0 > 1 - good\n", (1, 4)), ("letters 2\n0 > 0 1 good\n", (1, 6)),
                           ("letters 2\n\n  0   > 0  399 good\n", (2, 11)), ("letters 1\n0 > 0 good\n1 > 2", (2, 4)),
                           ("letters 1\n0 > 2 good\n1 > 3", (1, 4)), ("letters 2\n0 > 9 8 good\n", (1, 4))):
            self.fails_with(ParseError, spot, read_machine, text)
        # A wrong part of a later row is told first.
        self.fails_with(ParseError, (2, 4), read_machine, "letters 1\n0 > 399 good\n1 > 400")
        self.fails_with(ParseError, (2, 0), read_machine, "letters 1\n0 > 399 good\n2 > 0")
        # A goal that is no told room is told ahead of the errors of machines.
        self.fails_with(ParseError, (2, 4), read_machine, "letters 1\n0 > 0\n1 > 2")

    def test_errors_of_machines(self):
        self.fails_with(Refused, ("lost", 1), read_machine, "letters 1\n0 > 0 good\n1 > 0\n")
        self.fails_with(Refused, ("stuck", 0), read_machine, "letters 1\n0 > -\n")
        self.fails_with(Refused, ("stuck", 1), read_machine, "letters 1\n0 > 1 good\n1 > 1")
        large = machine_of(1, tuple(((room + 1) % 25,) for room in range(25)), (0,))
        self.fails(InvalidMachine, read_machine, write_machine(large))
        self.assertEqual(read_machine(write_machine(ring(24))), ring(24))
        self.assertEqual((is_written(write_machine(large)), is_written(write_machine(ring(24)))), (False, True))
        self.fails_with(Refused, ("lost", 1), read_reader, "letters of a reader 1\n0 > 0 good\n1 > 0\n")
        self.fails_with(Refused, ("stuck", 1), read_reader, "letters of a reader 1\n0 > 0,1 good\n1 > 1\n")
        wide = "".join(f"{room} > {room + 1}\n" for room in range(12)) + "12 > - good\n"
        self.fails(InvalidReader, read_reader, "letters of a reader 1\n" + wide)
        self.assertIs(is_written("letters of a reader 1\n" + wide), False)
        self.assertEqual(read_machine("letters 1\n" + wide), chain(13, 1))

    def test_spots_of_wrong_readers(self):
        head = "letters of a reader 2\n"
        for text, spot in (("", (0, 0)), ("letters", (0, 7)), ("letters 2\n0 > 0 0 good\n", (0, 8)), ("letters of", (0, 10)),
                           ("letters of a", (0, 12)), ("letters of a reader", (0, 19)), (" letters of a reader ", (0, 21)),
                           ("letters of the reader 2", (0, 11)), ("letters of a reader 5", (0, 20)), (head, (1, 0)),
                           ("letters of a reader 2 2", (0, 22)), ("reader", (0, 0)), ("letters a of reader 2", (0, 8)),
                           (head + "0 > 0 0,0", (1, 6)), (head + "0 > 1,0 0", (1, 4)), (head + "0 > 0,1 0 good", (1, 4)),
                           (head + "0 > 0 ,0", (1, 6)), (head + "0 > 0, 0", (1, 4)), (head + "0 > 0,,1 0", (1, 4)),
                           (head + "0 > 0 0,1 good\n1 > - 0,1,2", (1 + 1, 6)), (head + "0 > -,0 0", (1, 4)),
                           (head + "0 > 0,- 0", (1, 4)), (head + "0 > 0,400 0", (1, 4)), (head + "0 > 0,399 0", (1, 4)),
                           (head + "0 > 0,01 0", (1, 4)), (head + "0 > 0 0 good\n1 > 2,0 0", (2, 4)),
                           (head + "0 > 5 0 good\n1 > 2,0 0", (2, 4)), (head + "0 > , 0", (1, 4)),
                           (head + "0 > 0 0,2 good\n1 > 7 -", (1, 6)), (head + "0 > 0 ", (1, 6)), (head + "1 > 0 0", (1, 0)),
                           (head + "0 > 0;1 0", (1, 4)), (head + "0 > 0 0 good x", (1, 13))):
            self.fails_with(ParseError, spot, read_reader, text)
            self.assertIs(is_written(text) and text != "letters 2\n0 > 0 0 good\n", False)

    def test_texts_of_3000_characters_and_3001(self):
        text = TWO_ROOMS + " " * (3000 - len(TWO_ROOMS))
        self.assertEqual((len(text), read_machine(text)), (3000, WEAVE))
        self.fails_with(ParseError, None, read_machine, text + " ")
        self.fails_with(ParseError, None, read_reader, text + " ")
        self.fails_with(ParseError, None, first_of(rows_in), text + "\n")
        self.assertEqual(len(list(rows_in(text))), 3)
        sizes = {}
        for rooms in range(1, 401):
            machine = machine_of(1, tuple(((room + 1) % rooms,) for room in range(rooms)), (0,))
            text = plain_text(machine)
            sizes[len(text) <= 3000] = rooms
            if len(text) > 3000:
                self.fails_with(TooMany, 3000, write_machine, machine)
            else:
                self.assertEqual(write_machine(machine), text)
        self.assertEqual(len(sizes), 2)
        self.fails_with(TooMany, 3000, write_machine, unfolded(ALL, 7))
        # Texts that are just as long as they can be, and one character more.
        for length in (2999, 3000, 3001):
            machine = self.machine_of_length(length)
            self.assertEqual(len(plain_text(machine)), length)
            if length <= 3000:
                self.assertEqual(len(write_machine(machine)), length)
            else:
                self.fails_with(TooMany, 3000, write_machine, machine)

    def machine_of_length(self, length):
        """A machine, as it is returned, with a text of so many characters."""
        rooms = 200
        doors = [((room + 1) % rooms, None) for room in range(rooms)]
        bare = len(plain_text(machine_of(2, tuple(doors), (0,))))
        # Each good room takes five characters more, and each goal 10 in place of none takes one.
        more, rest = divmod(length - bare, 5)
        doors = [(goal, 10 if room < rest else None) for room, (goal, _) in enumerate(doors)]
        return machine_of(2, tuple(doors), tuple(range(more + 1)))

    def test_wrong_arguments(self):
        for value in NO_MACHINES:
            self.fails(InvalidMachine, write_machine, value)
        for value in NO_READERS:
            self.fails(InvalidReader, write_reader, value)
        for value in NO_TEXTS:
            self.fails_with(ParseError, None, read_machine, value)
            self.fails_with(ParseError, None, read_reader, value)
            self.fails_with(ParseError, None, first_of(rows_in), value)
            self.assertIs(is_written(value), False)
        rows_in(None)

    def test_rows(self):
        for text, told in (("", []), ("\n\n", []), ("  \n ", []), ("a", [(0, ((0, "a"),))]), (" a\n", [(0, ((1, "a"),))]),
                           ("\n\na  bc ", [(2, ((0, "a"), (3, "bc")))]), ("a\tb c\n\td", [(0, ((0, "a\tb"), (4, "c"))), (1, ((0, "\td"),))]),
                           ("a\nb", [(0, ((0, "a"),)), (1, ((0, "b"),))])):
            self.assertEqual(list(rows_in(text)), told)
        for machine in MACHINES[::5]:
            told = list(rows_in(write_machine(machine)))
            self.assertEqual([number for number, _ in told], list(range(machine.size + 1)))
            self.assertEqual([" ".join(part for _, part in parts) for _, parts in told], write_machine(machine).splitlines())
            for number, parts in told:
                row = write_machine(machine).splitlines()[number]
                self.assertTrue(all(row[at:at + len(part)] == part for at, part in parts))

    def test_what_is_written(self):
        for text in ("letters 1\n0 > - good\n", "letters 2\n0 > 0 0 good\n", "letters of a reader 1\n0 > 0 good\n", TWO_ROOMS):
            self.assertIs(is_written(text), True)
        for text in ("", ".", "01", "(0)", "letters 1\n0 > -\n", "letters 1\n0 > - good", "letters 1\n\n0 > - good\n",
                     "letters 1\n0 > - good \n", " letters 1\n0 > - good\n", "letters 1\n0  > - good\n",
                     "letters 1\n0 > - good\n1 > - good\n", "letters of a reader 1\n0 >  0 good\n", TWO_ROOMS * 2):
            self.assertIs(is_written(text), False)

    def test_what_is_not_true(self):
        text = "letters 2\n0 >  0 0 good\n"
        self.assertEqual((read_machine(text), is_written(text)), (ALL, False))
        self.assertIs(are_alike(ALL, ENDS), True)
        self.assertNotEqual(write_machine(ALL), write_machine(ENDS))
        self.assertEqual(write_machine(EMPTY_WORD), "letters 2\n0 > - - good\n")
