"""Entangled rooms: they go round, and words to all of them lie on one side of the endless word of their ring."""

from roomlines.base.checks import is_number
from roomlines.base.endless import count_agreeing, endless_of, order_heights
from roomlines.base.words import is_spelled
from roomlines.mach.heights import height_ways, heights_of, near_word, ranks_back
from roomlines.mach.machines import check_machine, room_behind, ways_back
from roomlines.ring.groups import edge_along, groups_round, near_ways, ring_along
from roomlines.ring.tuples import check_few, check_turning, is_led_back, room_tuples

SIDES = ("below", "above")
MOST_LETTERS = 2000


def _check_all(machine, rooms):
    """Raise the errors of a machine and of rooms of it."""
    check_turning(machine, rooms)
    check_few(machine)


def _outer_rooms(machine, rounds):
    """The dict from each of the groups that go round to the lists of its rooms that no word shows below and above.

    Those below have a low height that is not below the greatest ring word of the group, those above have a high
    height that is not above its least one.
    """
    groups, doors = rounds
    size = machine.size
    low_ways, high_ways = height_ways(machine)
    # Heights and ring words are ranked together, so that no letters of them need to be compared.
    ring_ways = [[(letter, size + source) for letter, source in pairs] for pairs in ways_back(doors)]
    low, high = ranks_back(low_ways + ring_ways, high_ways + ring_ways)
    return {group: ([room for room in group if low[room] >= high[size + at]],
                    [room for room in group if high[room] <= low[size + at]]) for at, group in enumerate(groups)}


def _side_of(outer):
    """The first side on which rooms are entangled, by the lists of _outer_rooms; None if there is none."""
    if not outer[0]:
        return SIDES[0]
    return None if outer[1] else SIDES[1]


def are_entangled(machine, rooms):
    """Whether the rooms are entangled."""
    _check_all(machine, rooms)
    if len(rooms) == 1:
        return True
    rounds = groups_round(machine, [rooms])
    return rooms in rounds[0] and _side_of(_outer_rooms(machine, rounds)[rooms]) is not None


def _ring_paper(machine, rounds, rooms, side):
    """The paper of rooms that are entangled on a side."""
    heights = heights_of(machine, rooms, "low" if side == "below" else "high")
    ways = near_ways(rounds, "high" if side == "below" else "low")
    edge = edge_along(machine.letters, ways, rounds[0].index(rooms))
    # With one letter more than a height agrees in with the edge, a word is on the same side of it as the height;
    # and with as many letters of the edge at its end, so is the endless word of a ring in place of the edge.
    many = max([count_agreeing(height, edge) for height in heights]) + 1
    words = tuple([near_word(machine, room, height, many) for room, height in zip(rooms, heights)])
    return "ring", ring_along(machine, rooms, rounds, ways, many), side, words


def entangled_paper(machine, rooms):
    """A paper that shows whether the rooms are entangled."""
    _check_all(machine, rooms)
    if len(rooms) == 1:
        return ("alone",)
    rounds = groups_round(machine, [rooms])
    if rooms not in rounds[0]:
        return ("still",)
    outer = _outer_rooms(machine, rounds)[rooms]
    side = _side_of(outer)
    if side is None:
        return "apart", outer[0][0], outer[1][0]
    return _ring_paper(machine, rounds, rooms, side)


def _are_words_to(machine, rooms, value):
    """Whether the value is a tuple of one word for each room that leads to it."""
    if not isinstance(value, tuple) or len(value) != len(rooms):
        return False
    if not all([is_spelled(machine.letters, word, MOST_LETTERS) for word in value]):
        return False
    return all([room_behind(machine, 0, word) == room for room, word in zip(rooms, value)])


def _is_ring_paper(machine, rooms, value):
    """Whether four values are a paper that at least two rooms are entangled."""
    told, ring, side, words = value
    if told != "ring" or side not in SIDES or not is_spelled(machine.letters, ring, MOST_LETTERS):
        return False
    if not is_led_back(machine, rooms, ring) or not _are_words_to(machine, rooms, words):
        return False
    endless = endless_of(machine.letters, ring, ())
    wanted = -1 if side == "below" else 1
    return all([order_heights(word, endless) == wanted for word in words])


def is_entangled_paper(machine, rooms, value):
    """Whether the value is a right paper on whether the rooms are entangled."""
    _check_all(machine, rooms)
    if not isinstance(value, tuple):
        return False
    if len(rooms) == 1:
        return value == ("alone",)
    if len(value) == 4:
        return _is_ring_paper(machine, rooms, value)
    rounds = groups_round(machine, [rooms])
    if rooms not in rounds[0]:
        return value == ("still",)
    if len(value) != 3 or not all([is_number(room, 0, machine.size - 1) for room in value[1:]]):
        return False
    outer = _outer_rooms(machine, rounds)[rooms]
    return _side_of(outer) is None and value == ("apart", outer[0][0], outer[1][0])


def _entangled_of(machine, starts):
    """The list of those of some tuples of at least two rooms that are entangled, in their sequence."""
    rounds = groups_round(machine, starts)
    if not rounds[0]:
        return []
    outer = _outer_rooms(machine, rounds)
    return [rooms for rooms in starts if rooms in outer and _side_of(outer[rooms]) is not None]


def entangled_tuples(machine):
    """Yield all ascending tuples of at least two entangled rooms, shorter ones first, those of one length ascending."""
    check_machine(machine)
    check_few(machine)
    starts = [rooms for many in range(2, machine.size + 1) for rooms in room_tuples(machine.size, many)]
    yield from _entangled_of(machine, starts)


def first_entangled(machine, many):
    """The first tuple of so many entangled rooms, at least two, of a machine of few rooms; () if there is none."""
    found = _entangled_of(machine, room_tuples(machine.size, many))
    return found[0] if found else ()


def entangled_rooms(machine):
    """The first one of the longest tuples of entangled rooms; () if there is none."""
    check_machine(machine)
    check_few(machine)
    rooms = ()
    many = machine.size
    while many > 1 and not rooms:
        rooms = first_entangled(machine, many)
        many -= 1
    return rooms


def entangled_number(machine):
    """The greatest number of entangled rooms, at least 1."""
    return max(1, len(entangled_rooms(machine)))


def is_entangling(machine, rooms, value):
    """Whether the value is a ring of the rooms on one side of whose endless word each of the rooms has a word."""
    _check_all(machine, rooms)
    if not is_led_back(machine, rooms, value):
        return False
    endless = endless_of(machine.letters, value, ())
    if all([order_heights(height, endless) < 0 for height in heights_of(machine, rooms, "low")]):
        return True
    return all([order_heights(height, endless) > 0 for height in heights_of(machine, rooms, "high")])
