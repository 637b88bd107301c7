"""Which rooms of a machine are before others, and which are mixed."""

from roomlines.base.checks import are_ascending, check_number, is_number
from roomlines.base.endless import count_agreeing
from roomlines.base.words import is_spelled, order_words
from roomlines.errors import UnknownName
from roomlines.mach.heights import all_heights, height_ranks, near_word
from roomlines.mach.machines import MOST_ROOMS, all_ways, check_machine, check_rooms, room_behind

RELATIONS = ("before", "behind", "mixed", "same")
ROADS = ("heights", "doors")
_MOST_SHOWN = 2000


def relation(machine, one, other):
    """How the first room lies to the second one: a word of RELATIONS."""
    check_rooms(machine, one, other)
    if one == other:
        return "same"
    low, high = height_ranks(machine)
    if high[one] <= low[other]:
        return "before"
    return "behind" if high[other] <= low[one] else "mixed"


def is_before(machine, one, other):
    """Whether the first room is before the second one."""
    return relation(machine, one, other) == "before"


def are_mixed(machine, one, other):
    """Whether two rooms are mixed."""
    return relation(machine, one, other) == "mixed"


def _unlike_pairs(size):
    """The ascending list of all pairs of unlike rooms."""
    return [(one, other) for one in range(size) for other in range(size) if one != other]


def _by_heights(machine):
    """The pairs of rooms of which the first one's high height is not behind the second one's low height."""
    low, high = height_ranks(machine)
    return [(one, other) for one, other in _unlike_pairs(machine.size) if high[one] <= low[other]]


def edge_marks(ways):
    """The lists of the least and of the greatest marks of all rooms, by the lists of the doors into them."""
    marks = [[letter for letter, _ in pairs] for pairs in ways]
    # The room 0 has a mark ahead of all letters, as no word other than () comes before it.
    marks[0].append(-1)
    return [min(row) for row in marks], [max(row) for row in marks]


def _goal_pairs(machine, pair):
    """The list of the pairs of unlike rooms to which doors with one letter lead from a pair of rooms."""
    pairs = list(zip(machine.doors[pair[0]], machine.doors[pair[1]]))
    return [goals for goals in pairs if None not in goals and goals[0] != goals[1]]


def _by_doors(machine):
    """The pairs of rooms that are left when all are struck out that cannot keep doors."""
    least_marks, greatest_marks = edge_marks(all_ways(machine))
    struck = {pair: True for pair in _unlike_pairs(machine.size) if greatest_marks[pair[0]] > least_marks[pair[1]]}
    waiting = list(struck)
    while waiting:
        pair = waiting.pop()
        for goals in _goal_pairs(machine, pair):
            if goals not in struck:
                struck[goals] = True
                waiting.append(goals)
    return [pair for pair in _unlike_pairs(machine.size) if pair not in struck]


def order_of(machine, *, road="heights"):
    """All pairs (q, r) of rooms with q before r, found by one of two roads."""
    check_machine(machine)
    if road not in ROADS:
        raise UnknownName(road)
    return tuple(_by_heights(machine) if road == "heights" else _by_doors(machine))


def mixed_pairs(machine):
    """Yield the pairs of mixed rooms, the lesser room first, ascending."""
    check_machine(machine)
    low, high = height_ranks(machine)
    for one in range(machine.size):
        for other in range(one + 1, machine.size):
            if high[one] > low[other] and high[other] > low[one]:
                yield one, other


def _words_across(machine, heights, one, other):
    """Words to two rooms, the first one behind the second one, if the first room is not before the second one."""
    high = heights[one][1]
    low = heights[other][0]
    many = count_agreeing(high, low) + 1
    return near_word(machine, one, high, many), near_word(machine, other, low, many)


def mixed_paper(machine, one, other):
    """A paper that shows how the first room lies to the second one."""
    told = relation(machine, one, other)
    if told != "mixed":
        return (told,)
    heights = all_heights(machine)
    late, early = _words_across(machine, heights, one, other)
    late_other, early_one = _words_across(machine, heights, other, one)
    # Two words lead to each of the rooms, in unlike sequences; so one of two triples is in order.
    if order_words(early_one, early) < 0:
        return "mixed", early_one, early, late
    return "mixed", early, early_one, late_other


def _are_shown_words(machine, words):
    """Whether all values are words that a paper may show, each one ahead of the next one."""
    if not all([is_spelled(machine.letters, word, _MOST_SHOWN) for word in words]):
        return False
    return all([order_words(words[at - 1], words[at]) < 0 for at in range(1, len(words))])


def _shows_mixed(machine, one, other, words):
    """Whether three values are words in order, the outer ones to one of both rooms, the inner one to the other."""
    if one == other or not _are_shown_words(machine, words):
        return False
    rooms = [room_behind(machine, 0, word) for word in words]
    return rooms in ([one, other, one], [other, one, other])


def is_mixed_paper(machine, one, other, value):
    """Whether the value is a right paper on how the first room lies to the second one."""
    told = relation(machine, one, other)
    if not isinstance(value, tuple):
        return False
    if told != "mixed":
        return value == (told,)
    return len(value) == 4 and value[0] == "mixed" and _shows_mixed(machine, one, other, value[1:])


def _is_pair(size, value):
    """Whether the value is a pair of unlike rooms."""
    if not isinstance(value, tuple) or len(value) != 2:
        return False
    return all([is_number(room, 0, size - 1) for room in value]) and value[0] != value[1]


def _behind_bits(size, pairs):
    """For each room an integer whose bits tell which rooms it is before, by the pairs."""
    bits = [0] * size
    for one, other in pairs:
        bits[one] = bits[one] | (1 << other)
    return bits


def _has_pair(bits, pair):
    """Whether a pair of rooms is among the pairs that the bits tell."""
    return (bits[pair[0]] >> pair[1]) & 1 == 1


def is_order(size, value):
    """Whether the value is an order of so many rooms."""
    check_number(size, 1, MOST_ROOMS)
    if not isinstance(value, tuple) or not all([_is_pair(size, pair) for pair in value]):
        return False
    bits = _behind_bits(size, value)
    return are_ascending(value) and all([bits[other] & ~bits[one] == 0 for one, other in value])


def does_keep_doors(machine, value):
    """Whether the value is an order of the rooms that keeps doors."""
    check_machine(machine)
    if not is_order(machine.size, value):
        return False
    least_marks, greatest_marks = edge_marks(all_ways(machine))
    if any([greatest_marks[one] > least_marks[other] for one, other in value]):
        return False
    bits = _behind_bits(machine.size, value)
    apart = [pair for pair in _unlike_pairs(machine.size) if not _has_pair(bits, pair)]
    return not any([_has_pair(bits, goals) for pair in apart for goals in _goal_pairs(machine, pair)])
