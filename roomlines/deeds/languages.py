"""Deeds on languages: the least machines of languages that are made of others."""

from roomlines.base.words import check_letters, check_word
from roomlines.errors import InvalidWord, Refused
from roomlines.mach.least import least_told
from roomlines.mach.machines import check_machine, check_machines, explored, machine_of, room_behind

MOST_WORDS = 20
MOST_ROOMS = 400


def _least_made(letters, doors, good):
    """The least machine of the language that doors and good rooms tell, with the errors behind all others."""
    return least_told(machine_of(letters, doors, good), MOST_ROOMS)


def _goes_on(deed, goals):
    """Whether words of the language that a deed makes of two can go on behind a pair of goals."""
    if deed == "meet":
        return None not in goals
    return goals[0] is not None or deed == "union" and goals[1] is not None


def _is_taken(deed, first, second):
    """Whether a deed takes a word, by whether the first and the second language have it."""
    if deed == "meet":
        return first and second
    return first or second if deed == "union" else first and not second


def _pair_behind(tables, deed, pair, letter):
    """The pair of the goals behind a pair of rooms and a letter; None if no word goes on so."""
    goals = tuple([None if room is None else doors[room][letter] for doors, room in zip(tables, pair)])
    return goals if _goes_on(deed, goals) else None


def _combined(one, other, deed):
    """The least machine of the language that a deed makes of the languages of two machines."""
    tables = (one.doors, other.doors)
    most = (one.size + 1) * (other.size + 1)
    pairs, doors = explored(one.letters, (0, 0), lambda pair, letter: _pair_behind(tables, deed, pair, letter), most)
    first = {room: True for room in one.good}
    second = {room: True for room in other.good}
    good = [at for at, pair in enumerate(pairs) if _is_taken(deed, pair[0] in first, pair[1] in second)]
    return _least_made(one.letters, doors, tuple(good))


def meet(one, other):
    """The language of the words that both languages have."""
    check_machines(one, other)
    return _combined(one, other, "meet")


def union_of(one, other):
    """The language of the words that at least one of both languages has."""
    check_machines(one, other)
    return _combined(one, other, "union")


def less(one, other):
    """The language of the words that the first language has and the second one has not."""
    check_machines(one, other)
    return _combined(one, other, "less")


def _check_machine_and_word(machine, word):
    """Raise the errors of a machine and a word of its letters."""
    check_machine(machine)
    check_word(machine.letters, word)


def ended_by(machine, word):
    """The language of the words that are words of the language with the word behind them."""
    _check_machine_and_word(machine, word)
    good = [room for room in range(machine.size) if room_behind(machine, room, word) in machine.good]
    return _least_made(machine.letters, machine.doors, tuple(good))


def after(machine, word):
    """The language of the words that are words of the language with the word ahead of them."""
    _check_machine_and_word(machine, word)
    start = room_behind(machine, 0, word)
    if start is None:
        raise Refused(("empty",))
    rooms, doors = explored(machine.letters, start, lambda room, letter: machine.doors[room][letter], machine.size)
    good = [at for at, room in enumerate(rooms) if room in machine.good]
    return _least_made(machine.letters, doors, tuple(good))


def put_ahead(machine, word):
    """The language of the words of the language with the word ahead of each of them."""
    _check_machine_and_word(machine, word)
    rooms = len(word)
    rows = [tuple([at + 1 if mark == letter else None for letter in range(machine.letters)])
            for at, mark in enumerate(word)]
    rows.extend([tuple([None if goal is None else goal + rooms for goal in row]) for row in machine.doors])
    return _least_made(machine.letters, tuple(rows), tuple([room + rooms for room in machine.good]))


def _check_words(letters, words):
    """Raise InvalidWord unless the value is a tuple of at most 20 words of the letters."""
    if not isinstance(words, tuple) or len(words) > MOST_WORDS:
        raise InvalidWord("no tuple of at most 20 words")
    for word in words:
        check_word(letters, word)


def tree_of(letters, words):
    """The machine that has a room for each beginning of some words, which are its language; it can have no word."""
    rows = [[None] * letters]
    ends = []
    for word in words:
        room = 0
        for letter in word:
            if rows[room][letter] is None:
                rows[room][letter] = len(rows)
                rows.append([None] * letters)
            room = rows[room][letter]
        ends.append(room)
    return machine_of(letters, tuple([tuple(row) for row in rows]), tuple(sorted(set(ends))))


def with_words(machine, words):
    """The language with some words more."""
    check_machine(machine)
    _check_words(machine.letters, words)
    return _combined(machine, tree_of(machine.letters, words), "union")


def without_words(machine, words):
    """The language without some words."""
    check_machine(machine)
    _check_words(machine.letters, words)
    return _combined(machine, tree_of(machine.letters, words), "less")


def of_words(letters, words):
    """The language of just some words."""
    check_letters(letters)
    _check_words(letters, words)
    return least_told(tree_of(letters, words), MOST_ROOMS)
