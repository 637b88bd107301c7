"""The low and the high heights of rooms: between them lie all words that lead to a room."""

from roomlines.base.checks import check_number
from roomlines.base.endless import endless_of, last_letters, order_heights
from roomlines.base.words import check_word
from roomlines.errors import UnknownName
from roomlines.mach.machines import all_ways, check_machine, check_room, first_words, rooms_ahead

SIDES = ("low", "high")
MOST_NEAR = 100


def check_side(side):
    """Raise UnknownName unless the value is one of the sides."""
    if side not in SIDES:
        raise UnknownName(side)


def _keys(ways, ranks, side):
    """For each room the pair (letter, rank) of the door that decides its height; (-1, 0) for the height ()."""
    keys = []
    for room, pairs in enumerate(ways):
        found = [(letter, ranks[source]) for letter, source in pairs]
        if side == "low":
            keys.append((-1, 0) if room == 0 else min(found))
        else:
            keys.append(max(found) if found else (-1, 0))
    return keys


def height_ranks(machine):
    """The lists of the ranks of all low heights and of all high heights: the lesser one is ahead."""
    ways = all_ways(machine)
    low = [0] * machine.size
    high = [0] * machine.size
    while True:
        # After so many steps the ranks compare as many last letters; at last they compare all of them.
        low_keys = _keys(ways, low, "low")
        high_keys = _keys(ways, high, "high")
        rank = {key: at for at, key in enumerate(sorted(set(low_keys + high_keys)))}
        new_low = [rank[key] for key in low_keys]
        new_high = [rank[key] for key in high_keys]
        if new_low == low and new_high == high:
            return low, high
        low = new_low
        high = new_high


def fitting_doors(ways, ranks, keys):
    """The list that has for each room the least pair (letter, other room) of its key; None if there is none."""
    doors = []
    for pairs, key in zip(ways, keys):
        fitting = [(letter, source) for letter, source in pairs if (letter, ranks[source]) == key]
        doors.append(min(fitting) if fitting else None)
    return doors


def _doors_of(machine):
    """The pair of the lists of the last doors of all rooms, in the sequence of the sides."""
    ways = all_ways(machine)
    low, high = height_ranks(machine)
    return (fitting_doors(ways, low, _keys(ways, low, "low")),
            fitting_doors(ways, high, _keys(ways, high, "high")))


def height_by(letters, doors, room):
    """The height of a room that its last door and those ahead of it spell."""
    reached = {}
    spelled = []
    at = room
    while at not in reached and doors[at] is not None:
        reached[at] = len(spelled)
        letter, at = doors[at]
        spelled.append(letter)
    if at not in reached:
        return tuple(spelled[::-1])
    start = reached[at]
    return endless_of(letters, tuple(spelled[start:][::-1]), tuple(spelled[:start][::-1]))


def height_of(machine, room, side):
    """The height of a side of a room."""
    return height_by(machine.letters, _doors_of(machine)[SIDES.index(side)], room)


def low_height(machine, room):
    """The greatest height of which no word that leads to the room is ahead."""
    check_machine(machine)
    check_room(machine, room)
    return height_of(machine, room, "low")


def high_height(machine, room):
    """The least height that is ahead of no word that leads to the room."""
    check_machine(machine)
    check_room(machine, room)
    return height_of(machine, room, "high")


def all_heights(machine):
    """The tuple that has for each room the pair of its low height and its high height."""
    check_machine(machine)
    low, high = _doors_of(machine)
    letters = machine.letters
    return tuple([(height_by(letters, low, room), height_by(letters, high, room)) for room in range(machine.size)])


def is_met(machine, room, *, side="low"):
    """Whether the height of the side is a word."""
    check_machine(machine)
    check_room(machine, room)
    check_side(side)
    return isinstance(height_of(machine, room, side), tuple)


def last_doors(machine, *, side="low"):
    """The tuple that has for each room its last door (letter, other room), None if there is none."""
    check_machine(machine)
    check_side(side)
    return tuple(_doors_of(machine)[SIDES.index(side)])


def near_word(machine, room, height, many):
    """The first word to the room that is a height of it, or agrees with it in at least so many last letters."""
    if isinstance(height, tuple) and len(height) < many:
        return height
    near = last_letters(height, many)
    words = first_words(machine)
    ahead = [words[source] for source in rooms_ahead(machine, room, near)]
    return min([(len(word), word) for word in ahead])[1] + near


def word_near(machine, room, many, *, side="low"):
    """The first word to the room that is its height, or agrees with it in at least so many last letters."""
    check_machine(machine)
    check_room(machine, room)
    check_number(many, 0, MOST_NEAR)
    check_side(side)
    return near_word(machine, room, height_of(machine, room, side), many)


def does_span(machine, room, word):
    """Whether the word is neither ahead of the low height nor behind the high height of the room."""
    check_machine(machine)
    check_room(machine, room)
    check_word(machine.letters, word)
    low, high = all_heights(machine)[room]
    return order_heights(low, word) <= 0 and order_heights(word, high) <= 0
