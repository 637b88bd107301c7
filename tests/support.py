"""Machines, wrong values and plain searches that the tests share."""

from functools import lru_cache
from itertools import combinations, permutations, product
from random import Random

from roomlines.base.endless import Endless
from roomlines.errors import Refused
from roomlines.mach.machines import Machine
from roomlines.order.before import order_of
from roomlines.order.readers import Reader

ALL = Machine(2, ((0, 0),), (0,))
EVEN = Machine(2, ((1, 0), (0, 1)), (0,))
WEAVE = Machine(2, ((1, None), (None, 0)), (0,))
FORK = Machine(3, ((None, 1, None), (2, None, 3), (None, None, 1), (4, None, None), (None, None, 3)), (1, 4))
TWINS = Machine(2, ((1, 2), (1, None), (2, None)), (1, 2))
FEW = Machine(2, ((1, 1), (None, 2), (None, None)), (1, 2))
HOOK = Machine(2, ((1, 2), (2, 1), (1, 2)), (1,))
THIRDS = Machine(2, ((1, 0), (2, 1), (0, 2)), (0,))
SPLIT = Machine(3, ((1, None, 2), (None, 1, None), (None, 2, None)), (1, 2))
EMPTY_WORD = Machine(2, ((None, None),), (0,))
KNOWN = (ALL, EVEN, WEAVE, FORK, TWINS, FEW, HOOK, THIRDS, SPLIT, EMPTY_WORD)

LONG = 10 ** 59
TOO_LONG = 10 ** 60
NO_NUMBERS = (True, False, None, "1", "", (1,), (), [1], {1: 1}, {}, -1, TOO_LONG, -TOO_LONG, 10 ** 99, ALL,
              Endless(2, (0,)))
NO_TUPLES = (True, False, None, 0, 1, "01", "", [0, 1], [], {0: 1}, {}, TOO_LONG, ALL, Endless(2, (0,)))


def chain(rooms, letters, *, good=None, back=None):
    """Rooms in a row, each with doors with all letters to the next one; perhaps from the last one back."""
    rows = [(room + 1,) * letters for room in range(rooms - 1)]
    rows.append((back,) * letters)
    return Machine(letters, tuple(rows), (rooms - 1,) if good is None else good)


def ring(rooms, letters=1, good=(0,)):
    """Rooms that each letter leads round."""
    return chain(rooms, letters, good=good, back=0)


def random_machines(seed, many, *, most_rooms=6, most_letters=4):
    """Machines with doors that are drawn, always the same ones for one seed."""
    dice = Random(seed)
    made = []
    while len(made) < many:
        rooms, letters = dice.randint(1, most_rooms), dice.randint(1, most_letters)
        missing = dice.choice((0, 1, 2, rooms))
        doors = tuple(tuple(None if goal >= rooms else goal
                            for goal in (dice.randrange(rooms + missing) for _ in range(letters)))
                      for _ in range(rooms))
        good = tuple(room for room in range(rooms) if dice.random() < 0.4)
        try:
            made.append(Machine.trimmed(letters, doors, good))
        except Refused:
            pass
    return made


def turning_machines(seed, many, *, most_rooms=5, most_letters=3):
    """Machines each of whose letters only gives the rooms other places."""
    dice = Random(seed)
    made = []
    while len(made) < many:
        rooms, letters = dice.randint(1, most_rooms), dice.randint(1, most_letters)
        columns = [dice.sample(range(rooms), rooms) for _ in range(letters)]
        try:
            made.append(Machine.trimmed(letters, tuple(zip(*columns)), (dice.randrange(rooms),)))
        except Refused:
            pass
    return made


def shuffled(machine, seed):
    """The machine with its rooms in another sequence, but for the room 0."""
    dice = Random(seed)
    others = dice.sample(range(1, machine.size), machine.size - 1)
    place = {room: at for at, room in enumerate([0] + others)}
    place[None] = None
    doors = tuple(tuple(place[goal] for goal in machine.doors[room]) for room in [0] + others)
    return Machine(machine.letters, doors, tuple(sorted(place[room] for room in machine.good)))


def doubled(machine, room):
    """The machine with a room twice; some of the doors to it lead to its double."""
    double = machine.size
    doors, turn = [], 0
    for row in machine.doors + (machine.doors[room],):
        new = []
        for goal in row:
            if goal == room:
                turn += 1
            new.append(double if goal == room and turn % 2 == 1 else goal)
        doors.append(tuple(new))
    good = machine.good + ((double,) if room in machine.good else ())
    return Machine.trimmed(machine.letters, tuple(doors), good)


@lru_cache(maxsize=None)
def all_words(letters, length):
    """All words of at most the length, shorter ones first, those of one length as tuples."""
    return tuple(word for many in range(length + 1) for word in product(range(letters), repeat=many))


def by_end(words):
    """The words in order, compared from the end."""
    return sorted(words, key=lambda word: word[::-1])


def plain_room(machine, word, room=0):
    """The room to which a word leads, None if a door is missing."""
    for letter in word:
        if room is None:
            return None
        room = machine.doors[room][letter]
    return room


def plain_words(machine, room, length):
    """All words of at most the length that lead to a room, in order."""
    return tuple(by_end([word for word in all_words(machine.letters, length) if plain_room(machine, word) == room]))


def plain_future(machine, room, length):
    """The set of the words of at most the length that lead from a room to a good one."""
    return {word for word in all_words(machine.letters, length) if plain_room(machine, word, room) in machine.good}


def spread(height, many):
    """At most so many last letters of a height, the last one first."""
    if isinstance(height, tuple):
        return height[::-1][:many]
    letters = height.tail[::-1]
    while len(letters) < many:
        letters += height.ring[::-1]
    return letters[:many]


def plain_order(one, other, many=200):
    """-1, 0 or 1: how two heights lie, by so many last letters."""
    first, second = spread(one, many), spread(other, many)
    return (first > second) - (first < second)


def order_lot(machine):
    """The set of the pairs (q, r) with q before r."""
    return set(order_of(machine, road="doors"))


@lru_cache(maxsize=None)
def arrangements(rooms):
    """All tuples of tuples, none of them empty, in which each of so many rooms stands once."""
    told = []
    for sequence in permutations(range(rooms)):
        for cuts in product((False, True), repeat=rooms - 1):
            rows = [[sequence[0]]]
            for room, cut in zip(sequence[1:], cuts):
                if cut:
                    rows.append([])
                rows[-1].append(room)
            told.append(tuple(tuple(row) for row in rows))
    return tuple(told)


def lots_of(rooms):
    """All ascending tuples of some of so many rooms, not empty."""
    return [told for many in range(1, rooms + 1) for told in combinations(range(rooms), many)]


def random_readers(seed, many, *, most_rooms=6, most_letters=4, doors_each=(0, 0, 1, 1, 2, 3)):
    """Readers with doors that are drawn, always the same ones for one seed."""
    dice = Random(seed)
    made = []
    while len(made) < many:
        rooms, letters = dice.randint(1, most_rooms), dice.randint(1, most_letters)
        doors = tuple(tuple(tuple(sorted(dice.sample(range(rooms), min(rooms, dice.choice(doors_each)))))
                            for _ in range(letters)) for _ in range(rooms))
        good = tuple(room for room in range(rooms) if dice.random() < 0.5)
        try:
            made.append(Reader(letters, doors, good))
        except Refused:
            pass
    return made


def lined_readers(seed, many, *, most_rooms=6, most_letters=3):
    """Readers whose rooms lie in the line 0, 1, ..: doors with one letter go up with the rooms that they come from."""
    dice = Random(seed)
    made = []
    while len(made) < many:
        rooms, letters = dice.randint(2, most_rooms), dice.randint(1, most_letters)
        cuts = [1] + sorted(dice.randint(1, rooms - 1) for _ in range(letters - 1)) + [rooms - 1]
        table = [[set() for _ in range(letters)] for _ in range(rooms)]
        for letter in range(letters):
            source, goal = dice.randint(0, 1), cuts[letter]
            while source < rooms and goal <= cuts[letter + 1]:
                if dice.random() < 0.85:
                    table[source][letter].add(goal)
                if dice.random() < 0.5:
                    source += 1
                else:
                    goal += 1
        doors = tuple(tuple(tuple(sorted(goals)) for goals in row) for row in table)
        try:
            made.append(Reader(letters, doors, tuple(room for room in range(rooms) if dice.random() < 0.5)))
        except Refused:
            pass
    return made


def random_orders(seed, size, many):
    """Strict orders of so many rooms that are drawn, as ascending tuples."""
    dice = Random(seed)
    told = []
    for _ in range(many):
        sequence = dice.sample(range(size), size)
        share = dice.choice((0, 0.2, 0.5, 0.8, 1))
        lot = {(sequence[at], sequence[to]) for at in range(size) for to in range(at + 1, size)
               if dice.random() < share}
        told.append(tuple(sorted(closed(lot))))
    return told


def closed(lot):
    """The set of pairs with all that follow."""
    while True:
        more = lot | {(one, third) for one, other in lot for again, third in lot if other == again}
        if more == lot:
            return lot
        lot = more


def led_set(reader, word):
    """The set of the rooms to which a word leads."""
    rooms = {0}
    for letter in word:
        rooms = {goal for room in rooms for goal in reader.doors[room][letter]}
    return rooms
