"""Unfolded machines: rooms taken apart by the last letters of the words that lead to them."""

from roomlines.base.checks import check_number
from roomlines.errors import InvalidOperation, TooMany
from roomlines.mach.least import futures, glued
from roomlines.mach.machines import check_machine, check_rooms, explored, machine_of
from roomlines.order.lines import line_number

MAX_FOLD = 8
MAX_UNFOLDED = 400


def _behind(doors, told, letter, many):
    """The pair of the room and of the last letters behind such a pair and a letter; None if a door is missing."""
    room, word = told
    goal = doors[room][letter]
    if goal is None:
        return None
    # A word that is shorter than the last letters is told by them whole, so it leads to a pair of its own.
    further = word + (letter,)
    return goal, further if len(further) <= many else further[1:]


def _folds(machine, many):
    """The list of the pairs (room, last letters), and the doors between them; None for more than 400 pairs."""
    doors = machine.doors
    return explored(machine.letters, (0, ()), lambda told, letter: _behind(doors, told, letter, many), MAX_UNFOLDED)


def told_folds(machine, many):
    """The pairs and the doors between them; TooMany for more than 400 pairs."""
    folds = _folds(machine, many)
    if folds is None:
        raise TooMany(MAX_UNFOLDED)
    return folds


def check_folds(machine, many):
    """Raise TooMany if there are more than 400 pairs."""
    # Each room but the first one has a door from a room that is unfolded by one letter less.
    most = machine.size
    for _ in range(many):
        most = 1 + machine.letters * most
    if most > MAX_UNFOLDED:
        told_folds(machine, many)


def _checked_folds(machine, many):
    """The pairs and the doors between them, with the errors of unfolded."""
    check_machine(machine)
    check_number(many, 0, MAX_FOLD)
    return told_folds(machine, many)


def machine_of_folds(machine, folds):
    """The unfolded machine of the pairs and the doors between them."""
    pairs, doors = folds
    good = [at for at, pair in enumerate(pairs) if pair[0] in machine.good]
    return machine_of(machine.letters, doors, tuple(good))


def unfolded(machine, many):
    """The machine, unfolded by so many letters."""
    return machine_of_folds(machine, _checked_folds(machine, many))


def fold_rooms(machine, many):
    """The tuple of the pairs (room, last letters) to which the rooms of the unfolded machine belong."""
    return tuple(_checked_folds(machine, many)[0])


def folded_lines(machine, many):
    """The tuple of the numbers of lines of the machine, unfolded by 0, 1, and so on up to so many letters."""
    # Unfolded by fewer letters the machine has no more rooms; so one check is enough.
    _checked_folds(machine, many)
    return tuple([line_number(unfolded(machine, fewer)) for fewer in range(many + 1)])


def each_unfolded(machine):
    """Yield the machines that are unfolded by 0, 1, .. 8 letters, up to the first one with more than 400 rooms."""
    check_machine(machine)
    for many in range(MAX_FOLD + 1):
        folds = _folds(machine, many)
        if folds is None:
            return
        yield machine_of_folds(machine, folds)


def _root(first, room):
    """The least room with which a room is one so far."""
    at = room
    while first[at] != at:
        at = first[at]
    return at


def _joined(machine, one, other):
    """The list that has for each room the least room with which it is one, if two rooms are one."""
    first = list(range(machine.size))
    pairs = [(one, other)]
    while pairs:
        room, further = pairs.pop()
        least, greatest = sorted([_root(first, room), _root(first, further)])
        if least < greatest:
            first[greatest] = least
            goals = list(zip(machine.doors[least], machine.doors[greatest]))
            # Rooms with one future have doors with the same letters.
            pairs.extend([pair for pair in goals if None not in pair])
    return [_root(first, room) for room in range(machine.size)]


def with_joined(machine, one, other):
    """The numbered machine in which two rooms of one future are one, and all rooms to which equal letters lead."""
    return glued(machine, _joined(machine, one, other))[0]


def joined_rooms(machine, one, other):
    """The numbered machine in which two rooms are one, and all rooms to which the same letters lead from them."""
    if not are_joinable(machine, one, other):
        raise InvalidOperation("the rooms have unlike futures")
    return with_joined(machine, one, other)


def are_joinable(machine, one, other):
    """Whether two rooms have one future."""
    check_rooms(machine, one, other)
    told = futures(machine)
    return told[one] == told[other]
