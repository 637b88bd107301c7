"""Entangled rooms: they go round, and words to all of them lie on one side of the endless word of their ring."""

from roomlines.base.checks import is_number
from roomlines.base.endless import count_agreeing, endless_of, order_heights
from roomlines.base.words import is_spelled
from roomlines.mach.heights import all_heights, near_word
from roomlines.mach.machines import check_machine, room_behind
from roomlines.ring.tuples import (check_few, check_turning, does_go_round, greatest_ring, is_led_back, least_ring,
                                   ring_near, round_tuples)

SIDES = ("below", "above")
MOST_LETTERS = 2000


def _check_all(machine, rooms):
    """Raise the errors of a machine and of rooms of it."""
    check_turning(machine, rooms)
    check_few(machine)


def _not_below(machine, rooms, endless):
    """The list of the rooms whose low height is not below an endless word: no word to them is below it."""
    heights = all_heights(machine)
    return [room for room in rooms if order_heights(heights[room][0], endless) >= 0]


def _not_above(machine, rooms, endless):
    """The list of the rooms whose high height is not above an endless word: no word to them is above it."""
    heights = all_heights(machine)
    return [room for room in rooms if order_heights(heights[room][1], endless) <= 0]


def _side_of(machine, rooms):
    """The first side on which rooms that go round are entangled; None if there is none."""
    if not _not_below(machine, rooms, greatest_ring(machine, rooms)):
        return "below"
    return None if _not_above(machine, rooms, least_ring(machine, rooms)) else "above"


def are_entangled(machine, rooms):
    """Whether the rooms are entangled."""
    _check_all(machine, rooms)
    return len(rooms) == 1 or does_go_round(machine, rooms) and _side_of(machine, rooms) is not None


def _ring_paper(machine, rooms, side):
    """The paper of rooms that are entangled on a side."""
    below = side == "below"
    edge = greatest_ring(machine, rooms) if below else least_ring(machine, rooms)
    heights = [pair[0] if below else pair[1] for pair in all_heights(machine)]
    # With one letter more than a height agrees in with the edge, a word is on the same side of it as the height;
    # and with as many letters of the edge at its end, so is the endless word of a ring in place of the edge.
    many = max([count_agreeing(heights[room], edge) for room in rooms]) + 1
    words = tuple([near_word(machine, room, heights[room], many) for room in rooms])
    return "ring", ring_near(machine, rooms, "greatest" if below else "least", many), side, words


def _apart(machine, rooms):
    """The paper of rooms that go round and are not entangled."""
    low = _not_below(machine, rooms, greatest_ring(machine, rooms))
    return "apart", low[0], _not_above(machine, rooms, least_ring(machine, rooms))[0]


def entangled_paper(machine, rooms):
    """A paper that shows whether the rooms are entangled."""
    _check_all(machine, rooms)
    if len(rooms) == 1:
        return ("alone",)
    if not does_go_round(machine, rooms):
        return ("still",)
    side = _side_of(machine, rooms)
    return _apart(machine, rooms) if side is None else _ring_paper(machine, rooms, side)


def _are_words_to(machine, rooms, value):
    """Whether the value is a tuple of one word for each room that leads to it."""
    if not isinstance(value, tuple) or len(value) != len(rooms):
        return False
    if not all([is_spelled(machine.letters, word, MOST_LETTERS) for word in value]):
        return False
    return all([room_behind(machine, 0, word) == room for room, word in zip(rooms, value)])


def _is_ring_paper(machine, rooms, value):
    """Whether four values are a paper that at least two rooms are entangled."""
    told, ring, side, words = value
    if told != "ring" or side not in SIDES or not is_spelled(machine.letters, ring, MOST_LETTERS):
        return False
    if not is_led_back(machine, rooms, ring) or not _are_words_to(machine, rooms, words):
        return False
    endless = endless_of(machine.letters, ring, ())
    wanted = -1 if side == "below" else 1
    return all([order_heights(word, endless) == wanted for word in words])


def is_entangled_paper(machine, rooms, value):
    """Whether the value is a right paper on whether the rooms are entangled."""
    _check_all(machine, rooms)
    if not isinstance(value, tuple):
        return False
    if len(rooms) == 1:
        return value == ("alone",)
    if not does_go_round(machine, rooms):
        return value == ("still",)
    if len(value) == 4:
        return _is_ring_paper(machine, rooms, value)
    if len(value) != 3 or not all([is_number(room, 0, machine.size - 1) for room in value[1:]]):
        return False
    return _side_of(machine, rooms) is None and value == _apart(machine, rooms)


def entangled_tuples(machine):
    """Yield all ascending tuples of at least two entangled rooms, shorter ones first, those of one length ascending."""
    check_machine(machine)
    check_few(machine)
    for many in range(2, machine.size + 1):
        for rooms in round_tuples(machine, many):
            if _side_of(machine, rooms) is not None:
                yield rooms


def entangled_rooms(machine):
    """The first one of the longest tuples of entangled rooms; () if there is none."""
    found = list(entangled_tuples(machine))
    # Shorter tuples come first, so the last one is as long as any.
    return [rooms for rooms in found if len(rooms) == len(found[-1])][0] if found else ()


def entangled_number(machine):
    """The greatest number of entangled rooms, at least 1."""
    return max(1, len(entangled_rooms(machine)))


def is_entangling(machine, rooms, value):
    """Whether the value is a ring of the rooms on one side of whose endless word each of the rooms has a word."""
    _check_all(machine, rooms)
    if not is_led_back(machine, rooms, value):
        return False
    endless = endless_of(machine.letters, value, ())
    return not _not_below(machine, rooms, endless) or not _not_above(machine, rooms, endless)
