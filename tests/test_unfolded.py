"""[13.1] to [13.5]: rooms taken apart by last letters."""

from itertools import combinations, product

from roomlines.errors import InvalidMachine, InvalidNumber, InvalidOperation, TooMany
from roomlines.mach.least import are_alike, futures, least
from roomlines.mach.machines import Machine, machine_of, numbered
from roomlines.order.before import are_mixed, relation
from roomlines.order.lines import line_number
from roomlines.ring.entangled import entangled_number
from roomlines.unfold import unfolded as module
from roomlines.unfold.unfolded import are_joinable, each_unfolded, fold_rooms, folded_lines, joined_rooms, unfolded
from tests.checks import Checks, first_of
from tests.support import (ALL, EMPTY_WORD, EVEN, FORK, KNOWN, LONG, NO_NUMBERS, TWINS, WEAVE, all_words, chain, doubled,
                           plain_future, plain_room, random_machines, ring, shuffled, turning_machines)
from tests.test_lines import NO_MACHINES

EXAMPLES = """
>>> TWIN = Machine(2, ((1, 1), (2, None), (None, None)), (2,))
>>> [folded_lines(TWIN, 1), folded_lines(EVEN, 2), fold_rooms(TWIN, 1)]
[(2, 1), (2, 2, 2), ((0, ()), (1, (0,)), (1, (1,)), (2, (0,)))]
>>> [unfolded(TWIN, 1).doors, joined_rooms(unfolded(TWIN, 1), 1, 2) == TWIN, are_joinable(TWIN, 1, 2)]
[((1, 2), (3, None), (3, None), (None, None)), True, False]
>>> [unfolded(ALL, 1).doors, unfolded(WEAVE, 2).doors, unfolded(WEAVE, 2).good, [told.size for told in each_unfolded(WEAVE)][:4]]
[((1, 2), (1, 2), (1, 2)), ((1, None), (None, 2), (3, None), (None, 2)), (0, 2), [2, 3, 4, 5]]
>>> joined_rooms(TWIN, 1, 2)
raises InvalidOperation
"""
NAMES = {"ALL": ALL, "EVEN": EVEN, "WEAVE": WEAVE, "FORK": FORK, "Machine": Machine}
TWIN = Machine(2, ((1, 1), (2, None), (None, None)), (2,))
# Two lines without a letter more, two with one, one with two.
TWICE = Machine(2, ((None, 1), (2, None), (0, 0)), (0,))
# These are of 400 rooms, unfolded by 7, and of 401, unfolded by 4.
FOLDS_TO_400 = Machine(2, ((0, 1), (1, 3), (2, 0), (2, 1)), (0,))
FOLDS_TO_401 = Machine(4, ((2, 1, 4, 3), (4, 2, 4, 3), (2, 1, 1, 2), (4, 4, 3, None), (3, 2, 3, None)), (1,))
# Two mixed rooms with one future: if they are one, there is one line.
FALLS, FALLING = Machine(3, ((1, 0, 1), (0, 1, 0)), (0, 1)), (0, 1)
LENGTHS = {1: 9, 2: 6, 3: 4, 4: 4}
DRAWN = (KNOWN + (TWIN, TWICE) + tuple(random_machines(131, 90)) + tuple(turning_machines(132, 20))
         + tuple(random_machines(133, 40, most_rooms=4, most_letters=2)))
LARGE = (chain(24, 4), chain(24, 1), ring(24), chain(24, 2, back=23)) + tuple(random_machines(134, 3, most_rooms=24))


def fold_of(machine, word, many):
    """The pair (room, last letters) to which a word leads; None if it leads nowhere."""
    room = plain_room(machine, word)
    return None if room is None else (room, word if len(word) < many else word[len(word) - many:])


def alike_pairs(machine):
    """The pairs of unlike rooms with one future."""
    told = futures(machine)
    return [pair for pair in combinations(range(machine.size), 2) if told[pair[0]] == told[pair[1]]]


def plain_joined(machine, one, other):
    """The sets of rooms that are one, if two rooms are one, as a list of the least room of its set for each room."""
    first = list(range(machine.size))
    first = [min(one, other) if room in (one, other) else room for room in first]
    while True:
        for (room, at), letter in product(list(enumerate(first)), range(machine.letters)):
            goals = machine.doors[room][letter], machine.doors[at][letter]
            if None not in goals and first[goals[0]] != first[goals[1]]:
                low, high = sorted((first[goals[0]], first[goals[1]]))
                first = [low if told == high else told for told in first]
                break
        else:
            return first


class UnfoldedTests(Checks):

    def test_examples(self):
        self.examples(EXAMPLES, {**vars(module), **NAMES})

    def test_constants(self):
        self.assertEqual((module.MAX_FOLD, module.MAX_UNFOLDED), (8, 400))

    def test_by_all_words(self):
        for machine in DRAWN:
            for many in (0, 1, 2, 3):
                told = unfolded(machine, many)
                rooms = fold_rooms(machine, many)
                self.assertEqual(len(rooms), told.size)
                self.assertEqual(len(set(rooms)), told.size)
                for word in all_words(machine.letters, LENGTHS[machine.letters]):
                    room = plain_room(told, word)
                    self.assertEqual(None if room is None else rooms[room], fold_of(machine, word, many))
                    self.assertIs(told(word), machine(word))
                for at, (room, _) in enumerate(rooms):
                    self.assertEqual(at in told.good, room in machine.good)

    def test_unfolded_machines(self):
        for machine in DRAWN + LARGE:
            for many in range(9):
                try:
                    told = unfolded(machine, many)
                except TooMany:
                    break
                self.assertEqual(numbered(told), told)
                self.assertIs(are_alike(told, machine), True)
                self.assertGreaterEqual(told.size, machine.size)
                if many == 0:
                    self.assertEqual(told, numbered(machine))
                    self.assertEqual([end for _, end in fold_rooms(machine, 0)], [()] * machine.size)
                if told.size <= 24:
                    self.assertEqual(Machine(told.letters, told.doors, told.good), told)

    def test_rooms_with_unlike_ends(self):
        mixed = 0
        for machine in DRAWN:
            for many in (1, 2, 3):
                told, rooms = unfolded(machine, many), fold_rooms(machine, many)
                if told.size > 25:
                    break
                for one, other in combinations(range(told.size), 2):
                    (room, end), (further, other_end) = rooms[one], rooms[other]
                    shorter = min(len(end), len(other_end))
                    parted = end[len(end) - shorter:] != other_end[len(other_end) - shorter:]
                    found = relation(told, one, other)
                    if parted:
                        self.assertEqual(found, "before" if end[::-1] < other_end[::-1] else "behind")
                    if found == "mixed":
                        mixed += 1
                        self.assertEqual((end, len(end)), (other_end, many))
                        self.assertIs(are_mixed(machine, room, further), True)
        self.assertGreater(mixed, 100)

    def test_numbers_of_lines(self):
        fallen = 0
        for machine in DRAWN:
            longest = max(many for many in range(5) if many == 0 or len(list(each_unfolded(machine))) > many)
            told = folded_lines(machine, longest)
            self.assertEqual(told, tuple(line_number(unfolded(machine, many)) for many in range(longest + 1)))
            self.assertEqual(list(told), sorted(told, reverse=True))
            self.assertEqual(told[0], line_number(machine))
            fallen += told[-1] < told[0]
            small = least(machine)
            if small.size < 7:
                self.assertGreaterEqual(min(folded_lines(small, min(longest, 2))), entangled_number(small))
        self.assertGreater(fallen, 20)
        self.assertEqual((folded_lines(TWICE, 2), folded_lines(ALL, 0), folded_lines(EVEN, 5)), ((2, 2, 1), (1,), (2,) * 6))
        self.assertEqual((entangled_number(TWICE), entangled_number(EVEN)), (1, 2))

    def test_400_rooms_and_more(self):
        self.assertEqual((unfolded(FOLDS_TO_400, 7).size, len(fold_rooms(FOLDS_TO_400, 7))), (400, 400))
        self.assertEqual(unfolded(FOLDS_TO_401, 3).size < 401, True)
        self.assertEqual(folded_lines(FOLDS_TO_400, 7)[-1], line_number(unfolded(FOLDS_TO_400, 7)))
        self.assertEqual([told.size for told in each_unfolded(FOLDS_TO_400)][-1], 400)
        self.assertEqual(len(list(each_unfolded(FOLDS_TO_401))), 4)
        for call in (unfolded, fold_rooms, folded_lines):
            self.fails_with(TooMany, 400, call, FOLDS_TO_400, 8)
            self.fails_with(TooMany, 400, call, FOLDS_TO_401, 4)
            self.fails_with(TooMany, 400, call, ALL, 8)
            self.fails_with(TooMany, 400, call, chain(24, 4), 6)
        self.assertEqual([unfolded(ALL, many).size for many in range(8)], [2 ** (many + 1) - 1 for many in range(8)])

    def test_each_unfolded(self):
        for machine in DRAWN + LARGE:
            told = list(each_unfolded(machine))
            for many in range(9):
                if many < len(told):
                    self.assertEqual(told[many], unfolded(machine, many))
                else:
                    self.fails_with(TooMany, 400, unfolded, machine, many)
        self.assertEqual([told.size for told in each_unfolded(EMPTY_WORD)], [1] * 9)
        self.assertEqual([told.size for told in each_unfolded(ring(24))], list(range(24, 33)))
        self.assertEqual(len(list(each_unfolded(ALL))), 8)

    def test_returned_machines_with_many_rooms(self):
        large = unfolded(ALL, 7)
        self.assertEqual((large.size, unfolded(large, 0), unfolded(large, 2)), (255, large, large))
        self.assertEqual((line_number(large), futures(large), least(large)), (1, (0,) * 255, ALL))
        # With () and 1 1 1 1 1 1 1 each shorter word is one with itself behind as many 1 as it lacks.
        self.assertEqual(joined_rooms(large, 0, 254).size, 128)
        wide = machine_of(1, tuple(((room + 1) % 392,) for room in range(392)), (0,))
        self.assertEqual((unfolded(wide, 8).size, unfolded(unfolded(wide, 8), 0).size), (400, 400))
        self.assertEqual((unfolded(unfolded(wide, 8), 8).size, len(list(each_unfolded(wide)))), (400, 9))
        wider = machine_of(1, tuple(((room + 1) % 400,) for room in range(400)), (0,))
        self.fails_with(TooMany, 400, unfolded, wider, 1)
        self.assertEqual([told == wider for told in each_unfolded(wider)], [True])
        self.assertEqual(unfolded(unfolded(WEAVE, 2), 3), unfolded(WEAVE, 3))

    def test_what_is_not_true(self):
        self.assertEqual([unfolded(EMPTY_WORD, many).size for many in range(9)], [1] * 9)
        self.assertEqual(folded_lines(EVEN, 6), (2,) * 7)
        told = unfolded(TWIN, 1)
        self.assertEqual((line_number(told), line_number(joined_rooms(told, 1, 2))), (1, 2))

    def test_wrong_arguments(self):
        for value in NO_MACHINES:
            for call in (unfolded, fold_rooms, folded_lines):
                self.fails(InvalidMachine, call, value, None)
                self.fails(InvalidMachine, call, value, 0)
            self.fails(InvalidMachine, first_of(each_unfolded), value)
        for given in NO_NUMBERS + (9, LONG):
            for call in (unfolded, fold_rooms, folded_lines):
                self.fails_with(InvalidNumber, given, call, FORK, given)
                self.fails_with(InvalidNumber, given, call, chain(24, 4), given)


class JoinedTests(Checks):

    def test_joinable_rooms(self):
        found = 0
        for at, machine in enumerate(DRAWN):
            for told in (machine, doubled(machine, at % machine.size)):
                words = [plain_future(told, room, min(told.size - 1, 4)) for room in range(told.size)]
                for one, other in product(range(told.size), repeat=2):
                    right = futures(told)[one] == futures(told)[other]
                    self.assertIs(are_joinable(told, one, other), right)
                    if told.size < 6 or not right:
                        self.assertIs(words[one] == words[other] if told.size < 6 else right, right)
                    found += right and one != other
        self.assertGreater(found, 150)

    def test_joined_rooms(self):
        closed = changed = 0
        for at, machine in enumerate(DRAWN):
            for told in (doubled(machine, at % machine.size), unfolded(machine, 1)):
                for one, other in alike_pairs(told)[:12]:
                    made = joined_rooms(told, one, other)
                    first = plain_joined(told, one, other)
                    self.assertEqual(made.size, len(set(first)))
                    self.assertEqual(joined_rooms(told, other, one), made)
                    self.assertEqual(numbered(made), made)
                    self.assertIs(are_alike(made, machine), True)
                    places = {}
                    for word in all_words(told.letters, 4):
                        room = plain_room(told, word)
                        to = plain_room(made, word)
                        self.assertEqual(room is None, to is None)
                        if room is not None:
                            self.assertEqual(places.setdefault(first[room], to), to)
                    self.assertEqual(len(set(places.values())), len(places))
                    closed += made.size < told.size - 1
                    changed += line_number(made) != line_number(told)
        self.assertTrue(closed > 20 and changed > 20, (closed, changed))

    def test_rooms_of_one_future_again_and_again(self):
        for machine in DRAWN:
            told = unfolded(machine, 1)
            while alike_pairs(told):
                smaller = joined_rooms(told, *alike_pairs(told)[-1])
                self.assertLess(smaller.size, told.size)
                told = smaller
            self.assertEqual(told, least(machine))

    def test_one_room_twice(self):
        for at, machine in enumerate(DRAWN):
            other = shuffled(machine, at)
            for room in range(machine.size):
                self.assertEqual(joined_rooms(other, room, room), numbered(machine))
                self.assertIs(are_joinable(other, room, room), True)

    def test_numbers_of_lines_grow_and_fall(self):
        self.assertEqual([line_number(told) for told in (FALLS, joined_rooms(FALLS, *FALLING))], [2, 1])
        grown = unfolded(TWIN, 1)
        self.assertEqual([line_number(told) for told in (grown, joined_rooms(grown, 1, 2))], [1, 2])
        self.assertEqual(joined_rooms(TWINS, 1, 2), least(TWINS))

    def test_unlike_futures(self):
        for machine in DRAWN:
            for one, other in combinations(range(machine.size), 2):
                if futures(machine)[one] != futures(machine)[other]:
                    self.fails(InvalidOperation, joined_rooms, machine, one, other)
                    self.fails(InvalidOperation, joined_rooms, machine, other, one)
                    self.assertIs(are_joinable(machine, one, other), False)

    def test_wrong_arguments(self):
        for value in NO_MACHINES:
            for call in (joined_rooms, are_joinable):
                self.fails(InvalidMachine, call, value, None, None)
                self.fails(InvalidMachine, call, value, 0, 0)
        for given in NO_NUMBERS + (5, LONG):
            for call in (joined_rooms, are_joinable):
                self.fails_with(InvalidNumber, given, call, FORK, given, None)
                self.fails_with(InvalidNumber, given, call, FORK, given, 0)
                self.fails_with(InvalidNumber, given, call, FORK, 1, given)
