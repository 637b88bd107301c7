"""How many words of one length a language has, and which word has which index among them."""

from roomlines.base.checks import check_count, check_number
from roomlines.base.words import check_word
from roomlines.errors import InvalidOperation
from roomlines.mach.machines import all_ways, check_machine, room_behind

MAX_LENGTH = 200
MOST_BETWEEN = 12
MOST_LENGTHS = 20


def _check_length(machine, length):
    """Raise the errors of a machine and of a length."""
    check_machine(machine)
    check_number(length, 0, MAX_LENGTH)


def _check_word_of(machine, word):
    """Raise the errors of a machine and of a word of its letters."""
    check_machine(machine)
    check_word(machine.letters, word)


def _tables(machine, length):
    """The list that has for each length, from 0 on, the list of how many words of it lead to each room."""
    tables = [[1] + [0] * (machine.size - 1)]
    for _ in range(length):
        counts = [0] * machine.size
        for room, row in enumerate(machine.doors):
            for goal in row:
                if goal is not None:
                    counts[goal] = counts[goal] + tables[-1][room]
        tables.append(counts)
    return tables


def _ahead(ways, rooms, letter):
    """The list of the rooms from which a letter leads to one of some rooms."""
    return [source for goal in rooms for mark, source in ways[goal] if mark == letter]


def counted(machine, length):
    """How many words of the language have the length."""
    return counted_ending(machine, (), length)


def room_counts(machine, length):
    """The tuple of how many words of the length lead to each room."""
    _check_length(machine, length)
    return tuple(_tables(machine, length)[length])


def counted_ending(machine, word, length):
    """How many words of the language with the length have the word as an end."""
    _check_word_of(machine, word)
    check_number(length, 0, MAX_LENGTH)
    if len(word) > length:
        return 0
    counts = _tables(machine, length - len(word))[-1]
    return sum([counts[room] for room in range(machine.size) if room_behind(machine, room, word) in machine.good])


def _word_with(machine, tables, length, index):
    """The word of the language with a length and an index, which is not too great."""
    ways = all_ways(machine)
    rooms = list(machine.good)
    word = ()
    left = index
    while len(word) < length:
        counts = tables[length - len(word) - 1]
        letter = 0
        ahead = _ahead(ways, rooms, letter)
        passed = sum([counts[room] for room in ahead])
        while left >= passed:
            left = left - passed
            letter += 1
            ahead = _ahead(ways, rooms, letter)
            passed = sum([counts[room] for room in ahead])
        word = (letter,) + word
        rooms = ahead
    return word


def nth_word(machine, length, index):
    """The word of the language with the length and the index."""
    _check_length(machine, length)
    check_count(index)
    tables = _tables(machine, length)
    if index >= sum([tables[length][room] for room in machine.good]):
        raise InvalidOperation("there are not so many words")
    return _word_with(machine, tables, length, index)


def _place(machine, tables, word):
    """How many words of the language with the length of a word are ahead of it."""
    ways = all_ways(machine)
    rooms = list(machine.good)
    place = 0
    for done, last in enumerate(word[::-1]):
        counts = tables[len(word) - done - 1]
        for letter in range(last):
            place = place + sum([counts[room] for room in _ahead(ways, rooms, letter)])
        rooms = _ahead(ways, rooms, last)
    return place


def place_of(machine, word):
    """How many words of the language with the length of the word are ahead of it."""
    _check_word_of(machine, word)
    return _place(machine, _tables(machine, len(word)), word)


def _beside(machine, word, step):
    """The word of the language so many places behind the place of a word; None if there is none."""
    tables = _tables(machine, len(word))
    place = _place(machine, tables, word) + step
    if 0 <= place < sum([tables[len(word)][room] for room in machine.good]):
        return _word_with(machine, tables, len(word), place)
    return None


def next_word(machine, word):
    """The first word of the language with the length of the word that is behind it; None if there is none."""
    _check_word_of(machine, word)
    return _beside(machine, word, 1 if room_behind(machine, 0, word) in machine.good else 0)


def word_ahead(machine, word):
    """The last word of the language with the length of the word that is ahead of it; None if there is none."""
    _check_word_of(machine, word)
    return _beside(machine, word, -1)


def between(machine, one, other):
    """Yield the words of the language strictly between two words of one length, in order."""
    check_machine(machine)
    check_word(machine.letters, one)
    check_word(machine.letters, other)
    if len(one) != len(other) or len(one) > MOST_BETWEEN:
        raise InvalidOperation("words of unlike or great lengths")
    first, last = sorted([one[::-1], other[::-1]])
    ways = all_ways(machine)
    tables = _tables(machine, len(one))
    # Each item has the last letters of words, the last one first, and the rooms from which these lead to good ones.
    stack = [((), list(machine.good))]
    while stack:
        back, rooms = stack.pop()
        many = len(back)
        if many == len(one):
            if first < back < last:
                yield back[::-1]
        elif first[:many] <= back <= last:
            counts = tables[len(one) - many - 1]
            # The stack gives back first what it got last, so the greatest letter goes there first.
            for letter in range(machine.letters - 1, -1, -1):
                ahead = [room for room in _ahead(ways, rooms, letter) if counts[room] > 0]
                if ahead:
                    stack.append((back + (letter,), ahead))


def first_lengths(machine, many):
    """The ascending tuple of the first so many lengths of words of the language."""
    check_machine(machine)
    check_number(many, 0, MOST_LENGTHS)
    good = {room: True for room in machine.good}
    found = []
    rooms = [0]
    length = 0
    while rooms and len(found) < many:
        if any([room in good for room in rooms]):
            found.append(length)
        rooms = sorted({goal for room in rooms for goal in machine.doors[room] if goal is not None})
        length += 1
    return tuple(found)
