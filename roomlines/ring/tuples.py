"""Rooms that go round: some word, their ring, leads each of them to itself."""

from roomlines.base.checks import check_number
from roomlines.base.words import check_word, is_spelled
from roomlines.errors import InvalidRooms, Refused, TooMany
from roomlines.mach.heights import fitting_doors, height_by
from roomlines.mach.machines import (alive_rooms, all_ways, check_machine, explored, first_words, machine_of,
                                     rearranged, room_behind)
from roomlines.order.lines import check_room_tuple

MOST_TURNING = 6
_MOST_TUPLES = 720


def check_turning(machine, rooms):
    """Raise the errors of a machine and of at most six rooms of it."""
    check_machine(machine)
    check_room_tuple(machine, rooms)
    if len(rooms) > MOST_TURNING:
        raise InvalidRooms("more than six rooms")


def check_few(machine):
    """Raise TooMany if the machine has more than six rooms."""
    if machine.size > MOST_TURNING:
        raise TooMany(MOST_TURNING)


def _led(machine, rooms, word):
    """The tuple of the rooms to which a word of any length leads some rooms; None if it leads one of them nowhere."""
    goals = tuple([room_behind(machine, room, word) for room in rooms])
    return None if None in goals else goals


def _led_apart(machine, rooms, letter):
    """The tuple of unlike rooms to which a letter leads some rooms; None if it does not."""
    goals = _led(machine, rooms, (letter,))
    return None if goals is None or len(set(goals)) < len(goals) else goals


def _piece(machine, rooms):
    """The tuples of the piece of some rooms, and the machine whose rooms they are, the room 0 being the rooms.

    If the rooms do not go round, no word but () leads the room 0 of this machine to itself.
    """
    tuples, doors = explored(machine.letters, rooms, lambda told, letter: _led_apart(machine, told, letter),
                             _MOST_TUPLES)
    # From a tuple of the piece a word leads back to the rooms; so the piece has all tuples that are not stuck.
    kept = sorted(alive_rooms(doors, (0,)))
    rows, good = rearranged(doors, (0,), kept)
    return [tuples[at] for at in kept], machine_of(machine.letters, rows, good)


def _first_ring(piece):
    """The first word other than () that leads the room 0 to itself; None if there is none."""
    words = first_words(piece)
    for room, word in enumerate(words):
        for letter, goal in enumerate(piece.doors[room]):
            if goal == 0:
                return word + (letter,)
    return None


def _going_piece(machine, rooms):
    """The piece of rooms that go round, with the error if they do not."""
    tuples, piece = _piece(machine, rooms)
    if _first_ring(piece) is None:
        raise Refused(("still",))
    return tuples, piece


def _edge_keys(ways, ranks, side):
    """For each room the pair (letter, rank) of the door through which the endless word of the side is gone back."""
    found = [[(letter, ranks[source]) for letter, source in pairs] for pairs in ways]
    return [max(pairs) if side == "greatest" else min(pairs) for pairs in found]


def _edge_doors(piece, side):
    """The list that has for each room of a piece the door through which the endless word of the side is gone back."""
    ways = all_ways(piece)
    ranks = [0] * piece.size
    while True:
        # After so many steps the ranks compare as many last letters; at last they compare all of them.
        keys = _edge_keys(ways, ranks, side)
        rank = {key: at for at, key in enumerate(sorted(set(keys)))}
        renewed = [rank[key] for key in keys]
        if renewed == ranks:
            return fitting_doors(ways, ranks, keys)
        ranks = renewed


def _edge(machine, rooms, side):
    """The endless word of the side near the rooms, with the errors of greatest_ring."""
    check_turning(machine, rooms)
    check_few(machine)
    piece = _going_piece(machine, rooms)[1]
    return height_by(machine.letters, _edge_doors(piece, side), 0)


def ring_near(machine, rooms, side, many):
    """A ring of rooms that go round with so many last letters of the endless word of the side near them."""
    piece = _going_piece(machine, rooms)[1]
    doors = _edge_doors(piece, side)
    spelled = []
    at = 0
    for _ in range(many):
        letter, at = doors[at]
        spelled.append(letter)
    return first_words(piece)[at] + tuple(spelled[::-1])


def is_led_back(machine, rooms, value):
    """Whether the value is a word of any length, other than (), that leads each of the rooms to itself."""
    if not isinstance(value, tuple) or value == () or not is_spelled(machine.letters, value, len(value)):
        return False
    return _led(machine, rooms, value) == rooms


def led_rooms(machine, rooms, word):
    """The tuple of the rooms to which the word leads the rooms; None if it leads one of them nowhere."""
    check_turning(machine, rooms)
    check_word(machine.letters, word)
    check_few(machine)
    return _led(machine, rooms, word)


def is_ring(machine, rooms, value):
    """Whether the value is a ring of the rooms, of any length."""
    check_turning(machine, rooms)
    check_few(machine)
    return is_led_back(machine, rooms, value)


def does_go_round(machine, rooms):
    """Whether the rooms go round."""
    return ring_of(machine, rooms) is not None


def ring_of(machine, rooms):
    """The shortest ring of the rooms, and the first one of these, as tuples compare; None if there is none."""
    check_turning(machine, rooms)
    check_few(machine)
    return _first_ring(_piece(machine, rooms)[1])


def piece_of(machine, rooms):
    """The ascending tuple of the tuples of the piece."""
    check_turning(machine, rooms)
    check_few(machine)
    return tuple(sorted(_going_piece(machine, rooms)[0]))


def greatest_ring(machine, rooms):
    """The greatest endless word near the rooms."""
    return _edge(machine, rooms, "greatest")


def least_ring(machine, rooms):
    """The least endless word near the rooms."""
    return _edge(machine, rooms, "least")


def _choices(size, many):
    """The ascending list of all ascending tuples of so many of the first rooms."""
    found = [()]
    for _ in range(many):
        found = [told + (room,) for told in found for room in range(told[-1] + 1 if told else 0, size)]
    return found


def round_tuples(machine, many):
    """Yield all ascending tuples of so many rooms that go round, ascending."""
    check_machine(machine)
    check_number(many, 1, MOST_TURNING)
    check_few(machine)
    for rooms in _choices(machine.size, many):
        if does_go_round(machine, rooms):
            yield rooms
