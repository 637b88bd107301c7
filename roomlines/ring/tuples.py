"""Rooms that go round: some word, their ring, leads each of them to itself."""

from roomlines.base.checks import check_number
from roomlines.base.words import check_word, is_spelled
from roomlines.errors import InvalidRooms, Refused, TooMany
from roomlines.mach.machines import check_machine, room_behind
from roomlines.order.lines import check_room_tuple
from roomlines.ring.groups import edge_along, groups_round, near_ways, piece_words

MOST_TURNING = 6


def check_turning(machine, rooms):
    """Raise the errors of a machine and of at most six rooms of it."""
    check_machine(machine)
    check_room_tuple(machine, rooms)
    if len(rooms) > MOST_TURNING:
        raise InvalidRooms("more than six rooms")


def check_few(machine):
    """Raise TooMany if the machine has more than six rooms."""
    if machine.size > MOST_TURNING:
        raise TooMany(MOST_TURNING)


def _led(machine, rooms, word):
    """The tuple of the rooms to which a word of any length leads some rooms; None if it leads one of them nowhere."""
    goals = tuple([room_behind(machine, room, word) for room in rooms])
    return None if None in goals else goals


def _edge(machine, rooms, side):
    """The endless word of the side near the rooms, with the errors of greatest_ring."""
    check_turning(machine, rooms)
    check_few(machine)
    rounds = groups_round(machine, [rooms])
    if rooms not in rounds[0]:
        raise Refused(("still",))
    return edge_along(machine.letters, near_ways(rounds, side), rounds[0].index(rooms))


def is_led_back(machine, rooms, value):
    """Whether the value is a word of any length, other than (), that leads each of the rooms to itself."""
    if not isinstance(value, tuple) or value == () or not is_spelled(machine.letters, value, len(value)):
        return False
    return _led(machine, rooms, value) == rooms


def led_rooms(machine, rooms, word):
    """The tuple of the rooms to which the word leads the rooms; None if it leads one of them nowhere."""
    check_turning(machine, rooms)
    check_word(machine.letters, word)
    check_few(machine)
    return _led(machine, rooms, word)


def is_ring(machine, rooms, value):
    """Whether the value is a ring of the rooms, of any length."""
    check_turning(machine, rooms)
    check_few(machine)
    return is_led_back(machine, rooms, value)


def does_go_round(machine, rooms):
    """Whether the rooms go round."""
    check_turning(machine, rooms)
    check_few(machine)
    return rooms in groups_round(machine, [rooms])[0]


def ring_of(machine, rooms):
    """The shortest ring of the rooms, and the first one of these, as tuples compare; None if there is none."""
    check_turning(machine, rooms)
    check_few(machine)
    for told, word in piece_words(machine, rooms).items():
        for letter in range(machine.letters):
            if _led(machine, told, (letter,)) == rooms:
                return word + (letter,)
    return None


def piece_of(machine, rooms):
    """The ascending tuple of the tuples of the piece."""
    check_turning(machine, rooms)
    check_few(machine)
    words = piece_words(machine, rooms)
    if not words:
        raise Refused(("still",))
    return tuple(sorted(list(words)))


def greatest_ring(machine, rooms):
    """The greatest endless word near the rooms."""
    return _edge(machine, rooms, "high")


def least_ring(machine, rooms):
    """The least endless word near the rooms."""
    return _edge(machine, rooms, "low")


def room_tuples(size, many):
    """The ascending list of all ascending tuples of so many of the first rooms."""
    found = [()]
    for _ in range(many):
        found = [told + (room,) for told in found for room in range(told[-1] + 1 if told else 0, size)]
    return found


def round_tuples(machine, many):
    """Yield all ascending tuples of so many rooms that go round, ascending."""
    check_machine(machine)
    check_number(many, 1, MOST_TURNING)
    check_few(machine)
    starts = room_tuples(machine.size, many)
    going = groups_round(machine, starts)[0]
    yield from sorted(going)
