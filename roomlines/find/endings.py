"""The rooms to which the words with a told end lead: one stretch of each line."""

from roomlines.base.checks import check_number, is_number
from roomlines.base.words import MAX_WORD, check_word, is_spelled
from roomlines.errors import InvalidOperation
from roomlines.mach.machines import check_machine
from roomlines.order.lines import check_lines

MOST_MISSING = 8


def _led(machine, rooms, letter):
    """The ascending tuple of the rooms to which doors with the letter lead from some rooms."""
    goals = [machine.doors[room][letter] for room in rooms]
    return tuple(sorted({goal for goal in goals if goal is not None}))


def _behind(machine, word):
    """The ascending tuple of the rooms behind a word."""
    # Each room is led to, so some word that ends in () leads to it.
    rooms = tuple(range(machine.size))
    for letter in word:
        rooms = _led(machine, rooms, letter)
    return rooms


def rooms_behind(machine, word):
    """The ascending tuple of the rooms behind the word, perhaps empty."""
    check_machine(machine)
    check_word(machine.letters, word)
    return _behind(machine, word)


def _around(places):
    """The least stretch that has some places of a line; (0, 0) for none."""
    return (min(places), max(places) + 1) if places else (0, 0)


def stretches(machine, lines, word):
    """The tuple of the stretches of the rooms behind the word, one for each line."""
    check_lines(machine, lines)
    check_word(machine.letters, word)
    found = {room: True for room in _behind(machine, word)}
    return tuple([_around([at for at, room in enumerate(line) if room in found]) for line in lines])


def _doors_between(machine, letter, line, place):
    """The pairs (index, goal) of the doors with the letter from a line to the rooms that have a place."""
    goals = [machine.doors[room][letter] for room in line]
    return [(at, place[goal]) for at, goal in enumerate(goals) if goal in place]


def _door_tables(machine, lines):
    """The tables [letter][first line][second line] of the lists of the pairs (index, goal) of doors."""
    places = [{room: at for at, room in enumerate(line)} for line in lines]
    return [[[_doors_between(machine, letter, line, place) for place in places] for line in lines]
            for letter in range(machine.letters)]


def _counts_of(pairs, size):
    """The tuple of how many of the doors leave the first 0, 1, .. rooms of a line of so many rooms."""
    counts = [0] * (size + 1)
    for at, _ in pairs:
        counts[at + 1] = 1
    for at in range(size):
        counts[at + 1] = counts[at] + counts[at + 1]
    return tuple(counts)


def _count_tables(tables, lines):
    """The tables of the counts, by those of the doors."""
    return tuple([tuple([tuple([_counts_of(pairs, len(line)) for pairs in row]) for row, line in zip(table, lines)])
                  for table in tables])


def _goal_tables(tables):
    """The tables of the goals, by those of the doors."""
    return tuple([tuple([tuple([tuple([goal for _, goal in pairs]) for pairs in row]) for row in table])
                  for table in tables])


def door_counts(machine, lines):
    """The tables [letter][first line][second line] of the tuple of the counts."""
    check_lines(machine, lines)
    return _count_tables(_door_tables(machine, lines), lines)


def door_goals(machine, lines):
    """The tables [letter][first line][second line] of the tuple of the goals."""
    check_lines(machine, lines)
    return _goal_tables(_door_tables(machine, lines))


def _is_stretch(value, size):
    """Whether the value is a pair of indices 0 <= first <= second <= size."""
    if not isinstance(value, tuple) or len(value) != 2:
        return False
    return is_number(value[0], 0, size) and is_number(value[1], value[0], size)


class Index:
    """An index: stretches of rooms behind words, from counts of doors alone. It never changes."""

    def __init__(self, machine, lines):
        check_lines(machine, lines)
        tables = _door_tables(machine, lines)
        self._source = machine
        self._lines = lines
        self._counts = _count_tables(tables, lines)
        self._goals = _goal_tables(tables)
        # Most pairs of lines have no doors between them, if there are many lines: they need not be looked at.
        self._joined = [[[line for line, goals in enumerate(row) if goals] for row in table] for table in self._goals]

    @property
    def source(self):
        """The machine."""
        return self._source

    @property
    def lines(self):
        """The choice of lines."""
        return self._lines

    def _one_further(self, told, letter):
        """The stretches to which doors with the letter lead from told stretches that are right."""
        places = [[] for _ in self._lines]
        for at, (start, stop) in enumerate(told):
            for line in self._joined[letter][at]:
                counts = self._counts[letter][at][line]
                places[line].extend(self._goals[letter][at][line][counts[start]:counts[stop]])
        return tuple([_around(found) for found in places])

    def __call__(self, word):
        """The stretches of the rooms behind the word."""
        check_word(self._source.letters, word)
        told = tuple([(0, len(line)) for line in self._lines])
        for letter in word:
            told = self._one_further(told, letter)
        return told

    def further(self, stretches, letter):
        """For each line the least stretch with all rooms to which doors with the letter lead from the stretches."""
        if not isinstance(stretches, tuple) or len(stretches) != len(self._lines):
            raise InvalidOperation("not a stretch for each line")
        if not all([_is_stretch(told, len(line)) for told, line in zip(stretches, self._lines)]):
            raise InvalidOperation("a pair that is no stretch of its line")
        check_number(letter, 0, self._source.letters - 1)
        return self._one_further(stretches, letter)

    def number(self, word):
        """How many rooms are behind the word."""
        return sum([stop - start for start, stop in self(word)])

    def __contains__(self, value):
        return is_spelled(self._source.letters, value, MAX_WORD) and len(_behind(self._source, value)) > 0

    def __len__(self):
        return len(self._lines)

    def __eq__(self, other):
        return isinstance(other, Index) and self._source == other._source and self._lines == other._lines


def first_missing(machine, length):
    """The first word of at most the length behind which there is no room; None if there is none."""
    check_machine(machine)
    check_number(length, 0, MOST_MISSING)
    # Behind two words with the same rooms behind them the same words are missing; so the first of them is enough.
    words = {_behind(machine, ()): ()}
    queue = list(words)
    at = 0
    while at < len(queue) and len(words[queue[at]]) < length:
        for letter in range(machine.letters):
            goals = _led(machine, queue[at], letter)
            word = words[queue[at]] + (letter,)
            if not goals:
                return word
            if goals not in words:
                words[goals] = word
                queue.append(goals)
        at += 1
    return None
