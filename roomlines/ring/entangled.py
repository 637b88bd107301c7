"""Entangled rooms: they go round, and words to all of them lie on one side of the endless word of their ring."""

from roomlines.base.checks import is_number
from roomlines.base.endless import count_agreeing, endless_of, order_heights
from roomlines.base.words import is_spelled
from roomlines.mach.heights import height_ways, heights_of, near_word, ranks_back
from roomlines.mach.machines import all_ways, check_machine, room_behind
from roomlines.ring.groups import edge_near, groups_round, ring_near
from roomlines.ring.tuples import check_few, check_turning, is_led_back, room_tuples

SIDES = ("below", "above")
MOST_LETTERS = 2000


def _check_all(machine, rooms):
    """Raise the errors of a machine and of rooms of it."""
    check_turning(machine, rooms)
    check_few(machine)


def _outer_rooms(machine, rounds, side):
    """The dict from each of the groups that go round to the list of those of its rooms that no word shows on a side.

    Below they have a low height that is not below the greatest ring word of the group, above a high height that is
    not above its least one.
    """
    groups, piece = rounds
    low_ways, high_ways = height_ways(machine)
    # Heights and ring words are ranked together, so that no letters of them need to be compared.
    if side == "below":
        low, high = ranks_back(low_ways, all_ways(piece))
        return {group: [room for room in group if low[room] >= high[at]] for at, group in enumerate(groups)}
    low, high = ranks_back(all_ways(piece), high_ways)
    return {group: [room for room in group if high[room] <= low[at]] for at, group in enumerate(groups)}


def _side_of(machine, rounds, rooms):
    """The first side on which rooms that go round are entangled; None if there is none."""
    for side in SIDES:
        if not _outer_rooms(machine, rounds, side)[rooms]:
            return side
    return None


def are_entangled(machine, rooms):
    """Whether the rooms are entangled."""
    _check_all(machine, rooms)
    if len(rooms) == 1:
        return True
    rounds = groups_round(machine, [rooms])
    return rooms in rounds[0] and _side_of(machine, rounds, rooms) is not None


def _ring_paper(machine, rooms, side):
    """The paper of rooms that are entangled on a side."""
    heights = heights_of(machine, rooms, "low" if side == "below" else "high")
    end = "high" if side == "below" else "low"
    edge = edge_near(machine, rooms, end)
    # With one letter more than a height agrees in with the edge, a word is on the same side of it as the height;
    # and with as many letters of the edge at its end, so is the endless word of a ring in place of the edge.
    many = max([count_agreeing(height, edge) for height in heights]) + 1
    words = tuple([near_word(machine, room, height, many) for room, height in zip(rooms, heights)])
    return "ring", ring_near(machine, rooms, end, many), side, words


def _apart(machine, rounds, rooms):
    """The paper of rooms that go round and are not entangled."""
    return ("apart",) + tuple([_outer_rooms(machine, rounds, side)[rooms][0] for side in SIDES])


def entangled_paper(machine, rooms):
    """A paper that shows whether the rooms are entangled."""
    _check_all(machine, rooms)
    if len(rooms) == 1:
        return ("alone",)
    rounds = groups_round(machine, [rooms])
    if rooms not in rounds[0]:
        return ("still",)
    side = _side_of(machine, rounds, rooms)
    return _apart(machine, rounds, rooms) if side is None else _ring_paper(machine, rooms, side)


def _are_words_to(machine, rooms, value):
    """Whether the value is a tuple of one word for each room that leads to it."""
    if not isinstance(value, tuple) or len(value) != len(rooms):
        return False
    if not all([is_spelled(machine.letters, word, MOST_LETTERS) for word in value]):
        return False
    return all([room_behind(machine, 0, word) == room for room, word in zip(rooms, value)])


def _is_ring_paper(machine, rooms, value):
    """Whether four values are a paper that at least two rooms are entangled."""
    told, ring, side, words = value
    if told != "ring" or side not in SIDES or not is_spelled(machine.letters, ring, MOST_LETTERS):
        return False
    if not is_led_back(machine, rooms, ring) or not _are_words_to(machine, rooms, words):
        return False
    endless = endless_of(machine.letters, ring, ())
    wanted = -1 if side == "below" else 1
    return all([order_heights(word, endless) == wanted for word in words])


def is_entangled_paper(machine, rooms, value):
    """Whether the value is a right paper on whether the rooms are entangled."""
    _check_all(machine, rooms)
    if not isinstance(value, tuple):
        return False
    if len(rooms) == 1:
        return value == ("alone",)
    if len(value) == 4:
        return _is_ring_paper(machine, rooms, value)
    rounds = groups_round(machine, [rooms])
    if rooms not in rounds[0]:
        return value == ("still",)
    if len(value) != 3 or not all([is_number(room, 0, machine.size - 1) for room in value[1:]]):
        return False
    return _side_of(machine, rounds, rooms) is None and value == _apart(machine, rounds, rooms)


def entangled_tuples(machine):
    """Yield all ascending tuples of at least two entangled rooms, shorter ones first, those of one length ascending."""
    check_machine(machine)
    check_few(machine)
    starts = [rooms for many in range(2, machine.size + 1) for rooms in room_tuples(machine.size, many)]
    rounds = groups_round(machine, starts)
    below, above = [_outer_rooms(machine, rounds, side) for side in SIDES]
    for rooms in starts:
        if rooms in below and (not below[rooms] or not above[rooms]):
            yield rooms


def entangled_rooms(machine):
    """The first one of the longest tuples of entangled rooms; () if there is none."""
    found = list(entangled_tuples(machine))
    # Shorter tuples come first, so the last one is as long as any.
    return [rooms for rooms in found if len(rooms) == len(found[-1])][0] if found else ()


def entangled_number(machine):
    """The greatest number of entangled rooms, at least 1."""
    return max(1, len(entangled_rooms(machine)))


def is_entangling(machine, rooms, value):
    """Whether the value is a ring of the rooms on one side of whose endless word each of the rooms has a word."""
    _check_all(machine, rooms)
    if not is_led_back(machine, rooms, value):
        return False
    endless = endless_of(machine.letters, value, ())
    if all([order_heights(height, endless) < 0 for height in heights_of(machine, rooms, "low")]):
        return True
    return all([order_heights(height, endless) > 0 for height in heights_of(machine, rooms, "high")])
