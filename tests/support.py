"""Machines, wrong values and plain searches that the tests share."""

from functools import lru_cache
from itertools import product
from random import Random

from roomlines.base.endless import Endless
from roomlines.errors import Refused
from roomlines.mach.machines import Machine

ALL = Machine(2, ((0, 0),), (0,))
EVEN = Machine(2, ((1, 0), (0, 1)), (0,))
WEAVE = Machine(2, ((1, None), (None, 0)), (0,))
FORK = Machine(3, ((None, 1, None), (2, None, 3), (None, None, 1), (4, None, None), (None, None, 3)), (1, 4))
TWINS = Machine(2, ((1, 2), (1, None), (2, None)), (1, 2))
FEW = Machine(2, ((1, 1), (None, 2), (None, None)), (1, 2))
HOOK = Machine(2, ((1, 2), (2, 1), (1, 2)), (1,))
THIRDS = Machine(2, ((1, 0), (2, 1), (0, 2)), (0,))
SPLIT = Machine(3, ((1, None, 2), (None, 1, None), (None, 2, None)), (1, 2))
EMPTY_WORD = Machine(2, ((None, None),), (0,))
KNOWN = (ALL, EVEN, WEAVE, FORK, TWINS, FEW, HOOK, THIRDS, SPLIT, EMPTY_WORD)

LONG = 10 ** 59
TOO_LONG = 10 ** 60
NO_NUMBERS = (True, False, None, "1", "", (1,), (), [1], {1: 1}, {}, -1, TOO_LONG, -TOO_LONG, 10 ** 99, ALL,
              Endless(2, (0,)))
NO_TUPLES = (True, False, None, 0, 1, "01", "", [0, 1], [], {0: 1}, {}, TOO_LONG, ALL, Endless(2, (0,)))


def chain(rooms, letters, *, good=None, back=None):
    """Rooms in a row, each with doors with all letters to the next one; perhaps from the last one back."""
    rows = [(room + 1,) * letters for room in range(rooms - 1)]
    rows.append((back,) * letters)
    return Machine(letters, tuple(rows), (rooms - 1,) if good is None else good)


def ring(rooms, letters=1, good=(0,)):
    """Rooms that each letter leads round."""
    return chain(rooms, letters, good=good, back=0)


def random_machines(seed, many, *, most_rooms=6, most_letters=4):
    """Machines with doors that are drawn, always the same ones for one seed."""
    dice = Random(seed)
    made = []
    while len(made) < many:
        rooms, letters = dice.randint(1, most_rooms), dice.randint(1, most_letters)
        missing = dice.choice((0, 1, 2, rooms))
        doors = tuple(tuple(None if goal >= rooms else goal
                            for goal in (dice.randrange(rooms + missing) for _ in range(letters)))
                      for _ in range(rooms))
        good = tuple(room for room in range(rooms) if dice.random() < 0.4)
        try:
            made.append(Machine.trimmed(letters, doors, good))
        except Refused:
            pass
    return made


def turning_machines(seed, many, *, most_rooms=5, most_letters=3):
    """Machines each of whose letters only gives the rooms other places."""
    dice = Random(seed)
    made = []
    while len(made) < many:
        rooms, letters = dice.randint(1, most_rooms), dice.randint(1, most_letters)
        columns = [dice.sample(range(rooms), rooms) for _ in range(letters)]
        try:
            made.append(Machine.trimmed(letters, tuple(zip(*columns)), (dice.randrange(rooms),)))
        except Refused:
            pass
    return made


def shuffled(machine, seed):
    """The machine with its rooms in another sequence, but for the room 0."""
    dice = Random(seed)
    others = dice.sample(range(1, machine.size), machine.size - 1)
    place = {room: at for at, room in enumerate([0] + others)}
    place[None] = None
    doors = tuple(tuple(place[goal] for goal in machine.doors[room]) for room in [0] + others)
    return Machine(machine.letters, doors, tuple(sorted(place[room] for room in machine.good)))


def doubled(machine, room):
    """The machine with a room twice; some of the doors to it lead to its double."""
    double = machine.size
    doors, turn = [], 0
    for row in machine.doors + (machine.doors[room],):
        new = []
        for goal in row:
            if goal == room:
                turn += 1
            new.append(double if goal == room and turn % 2 == 1 else goal)
        doors.append(tuple(new))
    good = machine.good + ((double,) if room in machine.good else ())
    return Machine.trimmed(machine.letters, tuple(doors), good)


@lru_cache(maxsize=None)
def all_words(letters, length):
    """All words of at most the length, shorter ones first, those of one length as tuples."""
    return tuple(word for many in range(length + 1) for word in product(range(letters), repeat=many))


def by_end(words):
    """The words in order, compared from the end."""
    return sorted(words, key=lambda word: word[::-1])


def plain_room(machine, word, room=0):
    """The room to which a word leads, None if a door is missing."""
    for letter in word:
        if room is None:
            return None
        room = machine.doors[room][letter]
    return room


def plain_words(machine, room, length):
    """All words of at most the length that lead to a room, in order."""
    return tuple(by_end([word for word in all_words(machine.letters, length) if plain_room(machine, word) == room]))


def plain_future(machine, room, length):
    """The set of the words of at most the length that lead from a room to a good one."""
    return {word for word in all_words(machine.letters, length) if plain_room(machine, word, room) in machine.good}


def spread(height, many):
    """At most so many last letters of a height, the last one first."""
    if isinstance(height, tuple):
        return height[::-1][:many]
    letters = height.tail[::-1]
    while len(letters) < many:
        letters += height.ring[::-1]
    return letters[:many]


def plain_order(one, other, many=200):
    """-1, 0 or 1: how two heights lie, by so many last letters."""
    first, second = spread(one, many), spread(other, many)
    return (first > second) - (first < second)
