"""Words that turn rooms, and machines with an order of the letters."""

from roomlines.base.checks import check_number, is_number
from roomlines.base.words import check_letters, check_word
from roomlines.errors import InvalidOrder
from roomlines.mach.machines import check_machine, machine_of, room_behind
from roomlines.ring.entangled import entangled_number
from roomlines.ring.groups import piece_words
from roomlines.ring.tuples import check_few, round_tuples
from roomlines.unfold.fewest import least_of_few

MOST_TURNED = 6


def _round_from(goals, room):
    """The tuple of the rooms from a room on, each led to the next one, until one comes a second time or none comes."""
    told = {}
    at = room
    while at is not None and at not in told:
        told[at] = True
        at = goals[at]
    return tuple(told)


def rounds_of(machine, word):
    """The ascending tuple of all rounds of the word."""
    check_machine(machine)
    check_word(machine.letters, word)
    goals = [room_behind(machine, room, word) for room in range(machine.size)]
    found = []
    for room in range(machine.size):
        told = _round_from(goals, room)
        # A round is told from its least room on.
        if len(told) > 1 and goals[told[-1]] == room and room == min(told):
            found.append(told)
    return tuple(found)


def _first_turned(machine, many):
    """The pair of the first round of so many rooms and of the first word that turns it; None if there is none."""
    found = []
    for rooms in round_tuples(machine, many):
        for goals, word in piece_words(machine, rooms).items():
            # Along one round of all rooms each of them is led to another one of them.
            told = _round_from(dict(zip(rooms, goals)), rooms[0]) if sorted(goals) == list(rooms) else ()
            if len(told) == many:
                found.append((told, word))
    return min(found, default=None)


def turned_rooms(machine, many):
    """The pair of the first round of so many rooms that some word turns and of this word; None if there is none."""
    check_machine(machine)
    check_number(many, 2, MOST_TURNED)
    check_few(machine)
    return _first_turned(machine, many)


def has_turns(machine):
    """Whether some word turns some rooms."""
    check_machine(machine)
    check_few(machine)
    return any([_first_turned(machine, many) is not None for many in range(2, machine.size + 1)])


def each_turned(machine):
    """Yield the pairs of turned_rooms for 2, 3, .. rooms."""
    check_machine(machine)
    check_few(machine)
    for many in range(2, machine.size + 1):
        told = _first_turned(machine, many)
        if told is not None:
            yield told


def _check_order(letters, order):
    """Raise InvalidOrder unless the value has each letter once."""
    if not isinstance(order, tuple) or not all([is_number(letter, 0, letters - 1) for letter in order]):
        raise InvalidOrder("no tuple of letters")
    if sorted(order) != list(range(letters)):
        raise InvalidOrder("not each letter once")


def _ordered(machine, order):
    """The machine with an order that is known to be right."""
    doors = tuple([tuple([row[letter] for letter in order]) for row in machine.doors])
    return machine_of(machine.letters, doors, machine.good)


def with_order(machine, order):
    """The machine whose letters are called by their places in the order."""
    check_machine(machine)
    _check_order(machine.letters, order)
    return _ordered(machine, order)


def undone_order(letters, order):
    """The order that undoes one."""
    check_letters(letters)
    _check_order(letters, order)
    return tuple([order.index(letter) for letter in range(letters)])


def _orders(letters):
    """The ascending list of all orders of the letters."""
    found = [()]
    for _ in range(letters):
        found = [told + (letter,) for told in found for letter in range(letters) if letter not in told]
    return found


def order_lines(machine):
    """The dict from all orders of the letters, ascending, to the fewest lines of the language with this order."""
    small = least_of_few(machine)
    # With an order a least machine stays a least one, but for the numbers of its rooms.
    return {order: entangled_number(_ordered(small, order)) for order in _orders(small.letters)}


def best_order(machine):
    """The first order with the fewest lines."""
    found = order_lines(machine)
    return min([(number, order) for order, number in found.items()])[1]
