"""The low and the high heights of rooms: between them lie all words that lead to a room."""

from roomlines.base.checks import check_number
from roomlines.base.endless import endless_of, last_letters, order_heights
from roomlines.base.words import check_word
from roomlines.errors import UnknownName
from roomlines.mach.machines import all_ways, check_machine, check_room, first_words, rooms_ahead

SIDES = ("low", "high")
MOST_NEAR = 100


def check_side(side):
    """Raise UnknownName unless the value is one of the sides."""
    if side not in SIDES:
        raise UnknownName(side)


def _keys(ways, ranks, side):
    """For each height the pair (letter, rank) of the way back that decides it; (-1, 0) for the height ()."""
    found = [[(letter, ranks[source]) for letter, source in pairs] for pairs in ways]
    if side == "low":
        return [min(pairs, default=(-1, 0)) for pairs in found]
    return [max(pairs, default=(-1, 0)) for pairs in found]


def height_ways(machine):
    """The lists of the ways back, for each low height and for each high height pairs (letter, room)."""
    ways = all_ways(machine)
    # The word () is ahead of all others, so the low height of the room 0 has no letters.
    return [[]] + ways[1:], ways


def _marks(ways, side):
    """The list that has for each height of a side one more than its last letter; 0 for the height ()."""
    at = 0 if side == "low" else -1
    return [1 + pairs[at][0] if pairs else 0 for pairs in ways]


def _edges(ways, marks, shift):
    """The list of the pairs of a height and a height of which it is perhaps made, both shifted by a number."""
    return [(shift + room, shift + source) for room, pairs in enumerate(ways)
            for letter, source in pairs if letter + 1 == marks[room]]


def _nearest(ranks, far, low_edges, high_edges):
    """For each height the rank of the one of which it is made, in place of the far rank; 0 for the height ()."""
    found = list(far)
    for at, source in low_edges:
        if ranks[source] < found[at]:
            found[at] = ranks[source]
    for at, source in high_edges:
        if ranks[source] > found[at]:
            found[at] = ranks[source]
    return found


def _ranked(keys):
    """The list of the ranks of some keys, from 0 on."""
    rank = {key: at for at, key in enumerate(sorted(set(keys)))}
    return [rank[key] for key in keys]


def ranks_back(low_ways, high_ways):
    """The lists of the ranks of all low and of all high heights with such ways back: the lesser one is ahead."""
    low_marks = _marks(low_ways, "low")
    high_marks = _marks(high_ways, "high")
    cut = len(low_ways)
    size = cut + len(high_ways)
    low_edges = _edges(low_ways, low_marks, 0)
    high_edges = _edges(high_ways, high_marks, cut)
    far = [size if mark > 0 else 0 for mark in low_marks] + [-1 if mark > 0 else 0 for mark in high_marks]
    ranks = _ranked(low_marks + high_marks)
    while True:
        # The ranks compare some last letters; with those of the heights ahead of the last letter, one more of them.
        keys = [rank * size + near for rank, near in zip(ranks, _nearest(ranks, far, low_edges, high_edges))]
        renewed = _ranked(keys)
        if renewed == ranks:
            return ranks[:cut], ranks[cut:]
        ranks = renewed


def height_ranks(machine):
    """The lists of the ranks of all low heights and of all high heights: the lesser one is ahead."""
    low_ways, high_ways = height_ways(machine)
    return ranks_back(low_ways, high_ways)


def deciding_ways(ways, side):
    """The list that has for each height of a side the list of those of its ways back that decide it."""
    low, high = ranks_back(ways, []) if side == "low" else ranks_back([], ways)
    ranks = low + high
    return [[(letter, source) for letter, source in pairs if (letter, ranks[source]) == key]
            for pairs, key in zip(ways, _keys(ways, ranks, side))]


def _doors_of(machine, side):
    """The list of the last doors of a side of all rooms."""
    ways = height_ways(machine)[SIDES.index(side)]
    return [min(pairs, default=None) for pairs in deciding_ways(ways, side)]


def height_by(letters, doors, room):
    """The height of a room that its last door and those ahead of it spell."""
    reached = {}
    spelled = []
    at = room
    while at not in reached and doors[at] is not None:
        reached[at] = len(spelled)
        letter, at = doors[at]
        spelled.append(letter)
    if at not in reached:
        return tuple(spelled[::-1])
    start = reached[at]
    return endless_of(letters, tuple(spelled[start:][::-1]), tuple(spelled[:start][::-1]))


def heights_of(machine, rooms, side):
    """The list of the heights of a side of some rooms."""
    doors = _doors_of(machine, side)
    return [height_by(machine.letters, doors, room) for room in rooms]


def height_of(machine, room, side):
    """The height of a side of a room."""
    return heights_of(machine, [room], side)[0]


def low_height(machine, room):
    """The greatest height of which no word that leads to the room is ahead."""
    check_machine(machine)
    check_room(machine, room)
    return height_of(machine, room, "low")


def high_height(machine, room):
    """The least height that is ahead of no word that leads to the room."""
    check_machine(machine)
    check_room(machine, room)
    return height_of(machine, room, "high")


def all_heights(machine):
    """The tuple that has for each room the pair of its low height and its high height."""
    check_machine(machine)
    rooms = list(range(machine.size))
    return tuple(list(zip(heights_of(machine, rooms, "low"), heights_of(machine, rooms, "high"))))


def is_met(machine, room, *, side="low"):
    """Whether the height of the side is a word."""
    check_machine(machine)
    check_room(machine, room)
    check_side(side)
    return isinstance(height_of(machine, room, side), tuple)


def last_doors(machine, *, side="low"):
    """The tuple that has for each room its last door (letter, other room), None if there is none."""
    check_machine(machine)
    check_side(side)
    return tuple(_doors_of(machine, side))


def near_word(machine, room, height, many):
    """The first word to the room that is a height of it, or agrees with it in at least so many last letters."""
    if isinstance(height, tuple) and len(height) < many:
        return height
    near = last_letters(height, many)
    words = first_words(machine)
    ahead = [words[source] for source in rooms_ahead(machine, room, near)]
    return min([(len(word), word) for word in ahead])[1] + near


def word_near(machine, room, many, *, side="low"):
    """The first word to the room that is its height, or agrees with it in at least so many last letters."""
    check_machine(machine)
    check_room(machine, room)
    check_number(many, 0, MOST_NEAR)
    check_side(side)
    return near_word(machine, room, height_of(machine, room, side), many)


def does_span(machine, room, word):
    """Whether the word is neither ahead of the low height nor behind the high height of the room."""
    check_machine(machine)
    check_room(machine, room)
    check_word(machine.letters, word)
    low = height_of(machine, room, "low")
    high = height_of(machine, room, "high")
    return order_heights(low, word) <= 0 and order_heights(word, high) <= 0
