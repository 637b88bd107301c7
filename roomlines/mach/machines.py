"""Machines: rooms, doors with letters between them, and good rooms."""

from roomlines.base.checks import are_numbers_up, check_number, is_number
from roomlines.base.words import check_letters, check_word
from roomlines.errors import InvalidMachine, InvalidOperation, Refused

MAX_ROOMS = 24
MOST_ROOMS = 400
MOST_LENGTH = 8


def _is_row(letters, size, row):
    """Whether the value is a row of doors of a machine with so many letters and rooms."""
    if not isinstance(row, tuple) or len(row) != letters:
        return False
    return all([goal is None or is_number(goal, 0, size - 1) for goal in row])


def _are_doors(letters, doors):
    """Whether the value is the doors of a machine with so many letters."""
    if not isinstance(doors, tuple) or not 1 <= len(doors) <= MAX_ROOMS:
        return False
    return all([_is_row(letters, len(doors), row) for row in doors])


def _check_parts(letters, doors, good):
    """Raise the errors of values of which no machine can be made."""
    check_letters(letters)
    if not _are_doors(letters, doors):
        raise InvalidMachine("no rows of doors")
    if not are_numbers_up(good, 0, len(doors) - 1):
        raise InvalidMachine("no ascending tuple of rooms")


def first_ways(doors):
    """The dict from each room that is led to, in the sequence of first words, to its first word."""
    words = {0: ()}
    queue = [0]
    at = 0
    while at < len(queue):
        room = queue[at]
        for letter, goal in enumerate(doors[room]):
            if goal is not None and goal not in words:
                words[goal] = words[room] + (letter,)
                queue.append(goal)
        at += 1
    return words


def rooms_by_words(doors):
    """The list of the rooms that are led to, in the order of their first words from the end."""
    backwards = sorted([(word[::-1], room) for room, word in first_ways(doors).items()])
    return [room for _, room in backwards]


def ways_back(doors):
    """The list that has for each room the ascending list of the pairs (letter, room) of the doors to it."""
    ways = [[] for _ in doors]
    for letter, goals in enumerate(zip(*doors)):
        for room, goal in enumerate(goals):
            if goal is not None:
                ways[goal].append((letter, room))
    return ways


def alive_rooms(doors, good):
    """The dict of the rooms from which some word leads to a good room."""
    found = {room: True for room in good}
    if len(found) == len(doors):
        return found
    sources = [[] for _ in doors]
    for room, row in enumerate(doors):
        for goal in row:
            if goal is not None:
                sources[goal].append(room)
    queue = list(good)
    while queue:
        goal = queue.pop()
        for room in sources[goal]:
            if room not in found:
                found[room] = True
                queue.append(room)
    return found


def _least_missing(doors, found):
    """The least room that is not among the found ones; None if there is none."""
    if len(found) == len(doors):
        return None
    return [room for room in range(len(doors)) if room not in found][0]


def check_ways(doors, good):
    """Raise Refused for the least lost room, or else for the least stuck one."""
    lost = _least_missing(doors, first_ways(doors))
    if lost is not None:
        raise Refused(("lost", lost))
    stuck = _least_missing(doors, alive_rooms(doors, good))
    if stuck is not None:
        raise Refused(("stuck", stuck))


def explored(letters, start, step, most):
    """The pair of all states from a start on, in the sequence of first words, and of their doors; None beyond most.

    The step tells the state behind a state and a letter, None if there is none.
    """
    states = [start]
    place = {start: 0}
    rows = []
    while len(rows) < len(states) <= most:
        row = []
        for letter in range(letters):
            goal = step(states[len(rows)], letter)
            if goal is not None and goal not in place:
                place[goal] = len(states)
                states.append(goal)
            row.append(place.get(goal))
        rows.append(tuple(row))
    return None if len(states) > most else (states, tuple(rows))


def rearranged(doors, good, sequence):
    """The doors and the good rooms, if the rooms of a sequence alone are left, numbered by it."""
    place = {room: at for at, room in enumerate(sequence)}
    # No door has the goal None, which has no place either: so a missing door stays missing.
    rows = tuple([tuple([place.get(goal) for goal in doors[room]]) for room in sequence])
    return rows, tuple(sorted([place[room] for room in good if room in place]))


class Machine:
    """A machine. It never changes."""

    def __init__(self, letters, doors, good):
        _check_parts(letters, doors, good)
        check_ways(doors, good)
        self._letters = letters
        self._doors = doors
        self._good = good

    @classmethod
    def trimmed(cls, letters, doors, good):
        """The machine without lost and stuck rooms; the other ones keep their sequence."""
        _check_parts(letters, doors, good)
        alive = alive_rooms(doors, good)
        if 0 not in alive:
            raise Refused(("empty",))
        left = [room for room in sorted(first_ways(doors)) if room in alive]
        rows, marked = rearranged(doors, good, left)
        return cls(letters, rows, marked)

    @property
    def letters(self):
        """The number of the letters."""
        return self._letters

    @property
    def doors(self):
        """The rows of the doors, one for each room."""
        return self._doors

    @property
    def good(self):
        """The ascending tuple of the good rooms."""
        return self._good

    @property
    def size(self):
        """The number of the rooms."""
        return len(self._doors)

    def __call__(self, word):
        """Whether the word leads to a good room."""
        check_word(self._letters, word)
        return room_behind(self, 0, word) in self._good

    def leads(self, room, word):
        """The room to which the word leads from a room; None if a door is missing."""
        check_room(self, room)
        check_word(self._letters, word)
        return room_behind(self, room, word)

    def ways_in(self, room):
        """The ascending tuple of the pairs (letter, other room) of all doors that lead to the room."""
        check_room(self, room)
        return tuple(ways_back(self._doors)[room])

    def __eq__(self, other):
        return (isinstance(other, Machine) and self._letters == other._letters
                and self._doors == other._doors and self._good == other._good)

    def __str__(self):
        return f"machine of {self._letters} letters: {len(self._doors)} rooms, {len(self._good)} good"


def machine_of(letters, doors, good):
    """The machine of right parts, which can have more rooms than a machine that is told."""
    made = Machine(1, ((0,),), (0,))
    made._letters = letters
    made._doors = doors
    made._good = good
    return made


def check_machine(machine):
    """Raise InvalidMachine unless the value is a machine."""
    if not isinstance(machine, Machine):
        raise InvalidMachine("no machine")


def check_machines(one, other):
    """Raise the errors of two machines that must have equally many letters."""
    check_machine(one)
    check_machine(other)
    if one.letters != other.letters:
        raise InvalidOperation("the machines have unlike numbers of letters")


def check_room(machine, room):
    """Raise InvalidNumber unless the value is a room of the machine."""
    check_number(room, 0, machine.size - 1)


def check_rooms(machine, one, other):
    """Raise the errors of a machine and two values that must be rooms of it."""
    check_machine(machine)
    check_room(machine, one)
    check_room(machine, other)


def room_behind(machine, room, word):
    """The room to which a word of any length leads from a room; None if a door is missing."""
    at = room
    for letter in word:
        if at is None:
            return None
        at = machine.doors[at][letter]
    return at


def all_ways(machine):
    """The list that has for each room the ascending list of the pairs (letter, other room) of the doors to it."""
    return ways_back(machine.doors)


def is_room_tuple(machine, value):
    """Whether the value is an ascending tuple of rooms of the machine, not empty."""
    return are_numbers_up(value, 0, machine.size - 1) and len(value) > 0


def rooms_ahead(machine, room, word):
    """The list of the rooms from which a word of any length leads to a room."""
    ways = all_ways(machine)
    rooms = [room]
    for letter in word[::-1]:
        rooms = [source for goal in rooms for mark, source in ways[goal] if mark == letter]
    return rooms


def first_words(machine):
    """The tuple of the first words of all rooms, by rooms."""
    check_machine(machine)
    words = first_ways(machine.doors)
    return tuple([words[room] for room in range(machine.size)])


def numbered(machine):
    """The machine with its rooms in the sequence of their first words."""
    check_machine(machine)
    rows, marked = rearranged(machine.doors, machine.good, list(first_ways(machine.doors)))
    return machine_of(machine.letters, rows, marked)


def are_renamed(one, other):
    """Whether two machines become one numbered machine."""
    check_machines(one, other)
    return numbered(one) == numbered(other)


def _words_into(machine, goals, length):
    """Yield the words with at most so many letters that lead to one of the goals, in order."""
    ways = all_ways(machine)
    stack = [((), goals)]
    while stack:
        word, rooms = stack.pop()
        if 0 in rooms:
            yield word
        if len(word) < length:
            # The stack gives back first what it got last, so the greatest letter goes there first.
            for letter in range(machine.letters - 1, -1, -1):
                before = [source for goal in rooms for mark, source in ways[goal] if mark == letter]
                if before:
                    stack.append(((letter,) + word, before))


def words_to_room(machine, room, length):
    """The tuple of all words with at most so many letters that lead to the room, in order."""
    check_machine(machine)
    check_room(machine, room)
    check_number(length, 0, MOST_LENGTH)
    goals = [room]
    return tuple(_words_into(machine, goals, length))


def beginnings(machine, length):
    """Yield all words with at most so many letters that lead to some room, in order."""
    check_machine(machine)
    check_number(length, 0, MOST_LENGTH)
    goals = list(range(machine.size))
    yield from _words_into(machine, goals, length)
