"""Words, endless words, machines and readers, written as texts and read from them."""

from roomlines.base.checks import are_ascending
from roomlines.base.endless import Endless
from roomlines.base.words import MAX_WORD, check_letters, check_word
from roomlines.errors import InvalidHeight, ParseError, Refused, RoomError, TooMany
from roomlines.mach.machines import Machine, check_machine
from roomlines.order.readers import Reader, check_reader

MAX_TEXT = 3000
_DIGITS = "0123456789"
_MOST_ROOM = 399
_MACHINE_HEAD = ("letters",)
_READER_HEAD = ("letters", "of", "a", "reader")


def _check_text(text):
    """Raise ParseError unless the value is a string of at most 3000 characters."""
    if not isinstance(text, str) or len(text) > MAX_TEXT:
        raise ParseError(None)


def _digits_of(word):
    """The digits of the letters of a word."""
    return "".join([str(letter) for letter in word])


def _letters_of(text):
    """The word that some digits tell."""
    return tuple([int(sign) for sign in text])


def _end_of_digits(letters, text, start):
    """The index behind the digits of letters, at most 200, from an index on."""
    at = start
    while at < len(text) and at - start < MAX_WORD and text[at] in _DIGITS[:letters]:
        at += 1
    return at


def write_word(letters, word):
    """The text of a word."""
    check_letters(letters)
    check_word(letters, word)
    return _digits_of(word) if word else "."


def read_word(letters, text):
    """The word of a text."""
    check_letters(letters)
    _check_text(text)
    if text == ".":
        return ()
    end = 1 if text.startswith(".") else _end_of_digits(letters, text, 0)
    if end < len(text) or end == 0:
        raise ParseError((0, end))
    return _letters_of(text)


def write_endless(value):
    """The text of an endless word."""
    if not isinstance(value, Endless):
        raise InvalidHeight("no endless word")
    return f"({_digits_of(value.ring)}){_digits_of(value.tail)}"


def read_endless(letters, text):
    """The endless word of a text."""
    check_letters(letters)
    _check_text(text)
    if not text.startswith("("):
        raise ParseError((0, 0))
    middle = _end_of_digits(letters, text, 1)
    if middle == 1 or text[middle:middle + 1] != ")":
        raise ParseError((0, middle))
    end = _end_of_digits(letters, text, middle + 1)
    if end < len(text):
        raise ParseError((0, end))
    return Endless(letters, _letters_of(text[1:middle]), tail=_letters_of(text[middle + 1:]))


def _text_of(head, letters, goals, good):
    """The text of a machine or a reader whose goals are told by parts, with the error if it is too long."""
    rows = [" ".join(list(head) + [str(letters)])]
    for room, row in enumerate(goals):
        rows.append(" ".join([str(room), ">"] + row + (["good"] if room in good else [])))
    text = "\n".join(rows) + "\n"
    if len(text) > MAX_TEXT:
        raise TooMany(MAX_TEXT)
    return text


def write_machine(machine):
    """The text of a machine."""
    check_machine(machine)
    goals = [["-" if goal is None else str(goal) for goal in row] for row in machine.doors]
    return _text_of(_MACHINE_HEAD, machine.letters, goals, machine.good)


def write_reader(reader):
    """The text of a reader."""
    check_reader(reader)
    goals = [[",".join([str(room) for room in rooms]) if rooms else "-" for rooms in row] for row in reader.doors]
    return _text_of(_READER_HEAD, reader.letters, goals, reader.good)


def _rows_of(text):
    """The list of all rows of a text."""
    rows = text.split("\n")
    return rows if rows[-1] else rows[:-1]


def _parts_of(row):
    """The list of the pairs (index, part) of a row."""
    starts = [at for at, sign in enumerate(row) if sign != " " and (at == 0 or row[at - 1] == " ")]
    return [(at, row[at:].partition(" ")[0]) for at in starts]


def rows_in(text):
    """Yield for each row that has parts its number and the tuple of its pairs (index, part)."""
    _check_text(text)
    for number, row in enumerate(_rows_of(text)):
        parts = _parts_of(row)
        if parts:
            yield number, tuple(parts)


def _is_room(part):
    """Whether a part is the number of a room, from 0 to 399."""
    if not 1 <= len(part) <= 3 or not all([sign in _DIGITS for sign in part]):
        return False
    return (part == "0" or part[0] != "0") and int(part) <= _MOST_ROOM


def _goals_of(part):
    """The tuple of the goals that a part tells."""
    return () if part == "-" else tuple([int(goal) for goal in part.split(",")])


def _is_goal(part, most):
    """Whether a part tells at most so many goals, ascending, or that there is none."""
    if part == "-":
        return True
    goals = part.split(",")
    return len(goals) <= most and all([_is_room(goal) for goal in goals]) and are_ascending(_goals_of(part))


def _fits_head(head, at, part):
    """Whether a part can stand at a place of the first row."""
    if at < len(head):
        return part == head[at]
    return at == len(head) and part in ("1", "2", "3", "4")


def _fits_room(room, letters, most, at, part):
    """Whether a part can stand at a place of the row of a room."""
    if at < 2:
        return part == (str(room) if at == 0 else ">")
    return _is_goal(part, most) if at < letters + 2 else at == letters + 2 and part == "good"


def _check_row(row, number, fits, needed):
    """Raise ParseError for the first part of a row that cannot stand there, or if parts are missing."""
    parts = _parts_of(row)
    for at, (index, part) in enumerate(parts):
        if not fits(at, part):
            raise ParseError((number, index))
    if len(parts) < needed:
        raise ParseError((number, len(row)))


def _read(text, head, most):
    """The letters, the rows of goals and the good rooms of a text, in which a part tells at most so many goals."""
    _check_text(text)
    rows = _rows_of(text)
    told = [number for number, row in enumerate(rows) if _parts_of(row)]
    if not told:
        raise ParseError((len(rows), 0))
    _check_row(rows[told[0]], told[0], lambda at, part: _fits_head(head, at, part), len(head) + 1)
    letters = int(_parts_of(rows[told[0]])[-1][1])
    for room, number in enumerate(told[1:]):
        _check_row(rows[number], number, lambda at, part: _fits_room(room, letters, most, at, part), letters + 2)
    if len(told) == 1:
        raise ParseError((len(rows), 0))
    doors = []
    good = []
    for room, number in enumerate(told[1:]):
        parts = _parts_of(rows[number])
        doors.append(_doors_told(parts[2:letters + 2], number, len(told) - 1))
        if len(parts) > letters + 2:
            good.append(room)
    return letters, doors, tuple(good)


def _doors_told(parts, number, rooms):
    """The list of the goals that some parts tell, with the error if one of them is none of so many rooms."""
    for index, part in parts:
        if any([goal >= rooms for goal in _goals_of(part)]):
            raise ParseError((number, index))
    return [_goals_of(part) for _, part in parts]


def read_machine(text):
    """The machine of a text."""
    letters, doors, good = _read(text, _MACHINE_HEAD, 1)
    rows = [tuple([goals[0] if goals else None for goals in row]) for row in doors]
    return Machine(letters, tuple(rows), good)


def read_reader(text):
    """The reader of a text."""
    letters, doors, good = _read(text, _READER_HEAD, _MOST_ROOM + 1)
    return Reader(letters, tuple([tuple(row) for row in doors]), good)


def _text_read_again(text):
    """The written text of the machine or the reader that a text tells; None if it tells none."""
    try:
        return write_machine(read_machine(text))
    except (RoomError, Refused):
        pass
    try:
        return write_reader(read_reader(text))
    except (RoomError, Refused):
        return None


def is_written(value):
    """Whether the value is the written text of a machine of at most 24 rooms, or of a reader."""
    return isinstance(value, str) and _text_read_again(value) == value
