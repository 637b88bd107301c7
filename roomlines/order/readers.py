"""Readers: machines whose rooms can have several doors with one letter, and strict orders of their rooms."""

from roomlines.base.checks import are_numbers_up, check_number, has_all_once
from roomlines.base.words import check_letters, check_word
from roomlines.errors import InvalidOrder, InvalidReader, TooMany
from roomlines.mach.machines import check_machine, check_ways, explored, machine_of
from roomlines.order.before import edge_marks, is_order

MAX_READER = 12
MAX_ORDERED = 7
MOST_SETS = 400


def _is_row(letters, size, row):
    """Whether the value is a row of doors of a reader with so many letters and rooms."""
    if not isinstance(row, tuple) or len(row) != letters:
        return False
    return all([are_numbers_up(goals, 0, size - 1) for goals in row])


def _check_parts(letters, doors, good):
    """Raise the errors of values of which no reader can be made."""
    check_letters(letters)
    if not isinstance(doors, tuple) or not 1 <= len(doors) <= MAX_READER:
        raise InvalidReader("no tuple of at most 12 rows")
    if not all([_is_row(letters, len(doors), row) for row in doors]):
        raise InvalidReader("no rows of doors")
    if not are_numbers_up(good, 0, len(doors) - 1):
        raise InvalidReader("no ascending tuple of rooms")


def _goals_of(doors, rooms, letter):
    """The ascending tuple of the rooms to which doors with the letter lead from some rooms."""
    return tuple(sorted({goal for room in rooms for goal in doors[room][letter]}))


def _rooms_led(doors, word):
    """The ascending tuple of the rooms to which a word leads."""
    rooms = (0,)
    for letter in word:
        rooms = _goals_of(doors, rooms, letter)
    return rooms


def _door_number(doors):
    """How many doors there are."""
    return sum([len(goals) for row in doors for goals in row])


class Reader:
    """A reader. It never changes."""

    def __init__(self, letters, doors, good):
        _check_parts(letters, doors, good)
        # Which rooms are lost or stuck does not hang on the letters of the doors.
        check_ways([[goal for goals in row for goal in goals] for row in doors], good)
        self._letters = letters
        self._doors = doors
        self._good = good

    @classmethod
    def of_machine(cls, machine):
        """The reader with the doors of a machine."""
        check_machine(machine)
        if machine.size > MAX_READER:
            raise TooMany(MAX_READER)
        doors = tuple([tuple([() if goal is None else (goal,) for goal in row]) for row in machine.doors])
        return cls(machine.letters, doors, machine.good)

    @property
    def letters(self):
        """The number of the letters."""
        return self._letters

    @property
    def doors(self):
        """The rows of the doors, one for each room."""
        return self._doors

    @property
    def good(self):
        """The ascending tuple of the good rooms."""
        return self._good

    @property
    def size(self):
        """The number of the rooms."""
        return len(self._doors)

    def __call__(self, word):
        """Whether the word leads to some good room."""
        return any([room in self._good for room in self.rooms_of(word)])

    def rooms_of(self, word):
        """The ascending tuple of the rooms to which the word leads."""
        check_word(self._letters, word)
        return _rooms_led(self._doors, word)

    def __eq__(self, other):
        return (isinstance(other, Reader) and self._letters == other._letters
                and self._doors == other._doors and self._good == other._good)

    def __str__(self):
        return f"reader of {self._letters} letters: {len(self._doors)} rooms, {_door_number(self._doors)} doors"


def check_reader(reader):
    """Raise InvalidReader unless the value is a reader."""
    if not isinstance(reader, Reader):
        raise InvalidReader("no reader")


def _check_order(reader, order):
    """Raise the errors of a reader and of a strict order of it."""
    if not is_strict_order(reader, order):
        raise InvalidOrder("no strict order of the rooms")


def _ways_into(reader):
    """The list that has for each room the pairs (letter, other room) of the doors to it."""
    ways = [[] for _ in reader.doors]
    for room, row in enumerate(reader.doors):
        for letter, goals in enumerate(row):
            for goal in goals:
                ways[goal].append((letter, room))
    return ways


def _needed_pairs(ways, pairs):
    """The list of the pairs of unlike rooms from which doors with one letter lead to one of some pairs."""
    return [(source, further) for one, other in pairs for letter, source in ways[one] for mark, further in ways[other]
            if letter == mark and source != further]


def _fits_marks(ways, pairs):
    """Whether no mark of the first room of a pair is greater than one of the second room."""
    least_marks, greatest_marks = edge_marks(ways)
    return all([greatest_marks[one] <= least_marks[other] for one, other in pairs])


def is_strict_order(reader, value):
    """Whether the value is a strict order of the rooms."""
    check_reader(reader)
    # A lot with (q, r) and (r, q) would need the pair (q, q), which no order has.
    return is_order(reader.size, value)


def does_keep(reader, value):
    """Whether the value is a strict order of the rooms that keeps doors."""
    if not is_strict_order(reader, value):
        return False
    ways = _ways_into(reader)
    lot = {pair: True for pair in value}
    return _fits_marks(ways, value) and all([pair in lot for pair in _needed_pairs(ways, value)])


def _may_begin(ways, line):
    """Whether nothing that a line with these first rooms already tells keeps it from keeping doors."""
    pairs = [(room, other) for at, room in enumerate(line) for other in line[at + 1:]]
    place = {room: at for at, room in enumerate(line)}
    nowhere = len(ways)
    # Rooms that have no place yet come behind all others; of two of them nothing is known.
    return _fits_marks(ways, pairs) and all([place.get(source, nowhere) <= place.get(further, nowhere)
                                             for source, further in _needed_pairs(ways, pairs)])


def _first_line(ways, line):
    """The first line of all rooms that begins with some rooms and keeps doors; None if there is none."""
    if not _may_begin(ways, line):
        return None
    if len(line) == len(ways):
        return line
    for room in range(len(ways)):
        if room not in line:
            found = _first_line(ways, line + (room,))
            if found is not None:
                return found
    return None


def line_order(reader):
    """The first tuple of all rooms, each before all behind it, that keeps doors; None if there is none."""
    check_reader(reader)
    if reader.size > MAX_ORDERED:
        raise TooMany(MAX_ORDERED)
    return _first_line(_ways_into(reader), ())


def _find_next(room, behind, ahead, asked):
    """Give the room a next room of its own, and tell whether there is one; others may change theirs for that."""
    for other in behind[room]:
        if other not in asked:
            asked[other] = True
            if other not in ahead or _find_next(ahead[other], behind, ahead, asked):
                ahead[other] = room
                return True
    return False


def _next_rooms(size, order):
    """The dict from rooms to the next rooms of their lines, with as few lines of the order as can be."""
    behind = [[other for one, other in order if one == room] for room in range(size)]
    ahead = {}
    for room in range(size):
        _find_next(room, behind, ahead, {})
    return {ahead[room]: room for room in ahead}


def _line_from(following, room):
    """The line that begins with a room."""
    line = [room]
    while line[-1] in following:
        line.append(following[line[-1]])
    return tuple(line)


def order_lines(reader, order):
    """As few lines of the order as can be, in which each room stands once."""
    _check_order(reader, order)
    following = _next_rooms(reader.size, order)
    second = {following[room]: True for room in following}
    return tuple([_line_from(following, room) for room in range(reader.size) if room not in second])


def are_order_lines(reader, order, value):
    """Whether the value is as few lines of the order as can be, in which each room stands once."""
    _check_order(reader, order)
    if not has_all_once(value, reader.size):
        return False
    lot = {pair: True for pair in order}
    steps = [(line[at - 1], line[at]) for line in value for at in range(1, len(line))]
    # Each line has one step less than rooms; so the fewest lines have the most steps.
    return all([step in lot for step in steps]) and len(steps) == len(_next_rooms(reader.size, order))


def _sets(reader):
    """The pair of the list of all sets and of the doors between them."""
    found = explored(reader.letters, (0,), lambda rooms, letter: _goals_of(reader.doors, rooms, letter) or None,
                     MOST_SETS)
    if found is None:
        raise TooMany(MOST_SETS)
    return found


def sets_of(reader):
    """The pair of the machine of the sets and of the tuple of the sets."""
    check_reader(reader)
    sets, doors = _sets(reader)
    good = [at for at, rooms in enumerate(sets) if any([room in reader.good for room in rooms])]
    return machine_of(reader.letters, doors, tuple(good)), tuple(sets)


def set_bound(size, number):
    """The greatest number of sets, if so many rooms lie in so many lines of a strict order that keeps doors."""
    check_number(size, 1, MAX_READER)
    check_number(number, 1, size)
    return (1 << number) * (size - number + 1) - 1


def are_stretches(reader, order):
    """Whether each set is a stretch of the order."""
    _check_order(reader, order)
    lot = {pair: True for pair in order}
    between = [(one, room, other) for one, other in order for room in range(reader.size)
               if (one, room) in lot and (room, other) in lot]
    return not any([one in rooms and other in rooms and room not in rooms
                    for rooms in _sets(reader)[0] for one, room, other in between])
