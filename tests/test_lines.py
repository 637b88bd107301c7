"""[7.1] to [7.6]: lines."""

from itertools import combinations, product

from roomlines.errors import InvalidLines, InvalidMachine, InvalidOperation, InvalidRooms, UnknownName
from roomlines.find.endings import stretches
from roomlines.mach.least import least
from roomlines.mach.machines import Machine, numbered
from roomlines.order import lines as module
from roomlines.order.before import are_mixed, is_before, mixed_pairs
from roomlines.order.lines import (are_fewest_lines, are_lines, earlier_of, is_side_by_side, later_of, line_number,
                                   lines, longest_line, mixed_sets, one_line_order, side_by_side, steps)
from roomlines.order.readers import Reader, sets_of
from tests.checks import Checks
from tests.support import (ALL, EVEN, FORK, HOOK, KNOWN, NO_TUPLES, SPLIT, THIRDS, TWINS, WEAVE, all_words,
                           arrangements, by_end, chain, doubled, lots_of, order_lot, plain_room, random_machines, ring,
                           shuffled, turning_machines)
from tests.test_machines import NO_MACHINES as NONE_OF_ALL

EXAMPLES = """
>>> HOOK, THIRDS = Machine(2, ((1, 2), (2, 1), (1, 2)), (1,)), Machine(2, ((1, 0), (2, 1), (0, 2)), (0,))
>>> [line_number(machine) for machine in (ALL, EVEN, WEAVE, FORK, HOOK, THIRDS)]
[1, 2, 2, 1, 2, 3]
>>> [lines(FORK), one_line_order(FORK), one_line_order(EVEN), are_lines(FORK, ((0, 4), (2, 1, 3))), are_fewest_lines(FORK, ((0, 4), (2, 1, 3))), are_lines(EVEN, ((0, 1),))]
[((0, 2, 4, 1, 3),), (0, 2, 4, 1, 3), None, True, False, False]
>>> [side_by_side(HOOK), side_by_side(FORK), side_by_side(FORK, side="late"), is_side_by_side(WEAVE, (0, 1)), is_side_by_side(FORK, (0, 2)), is_side_by_side(THIRDS, (0, 2))]
[(1, 2), (0,), (3,), True, False, True]
>>> [steps(HOOK), mixed_sets(HOOK), longest_line(HOOK), mixed_sets(FORK), earlier_of(FORK, (4,), (2,)), later_of(FORK, (4,), (2,))]
[(1, 2, 2), ((0,), (1, 2)), (0, 1), ((0,), (2,), (4,), (1,), (3,)), (2,), (4,)]
>>> side_by_side(FORK, side="last")
raises UnknownName('last')
>>> earlier_of(HOOK, (1, 2), (0,))
raises InvalidOperation
"""
NAMES = {"ALL": ALL, "EVEN": EVEN, "WEAVE": WEAVE, "FORK": FORK, "Machine": Machine}
LENGTHS = {1: 9, 2: 7, 3: 5, 4: 4}
# This reader has just 25 sets, so a machine of 25 rooms comes from it.
WIDE_READER = Reader(2, (((), (2,)), ((0, 5), (0, 2)), ((5,), (3,)), ((4,), (1,)), ((2, 5), (0, 3)), ((4,), (4,))),
                     (0, 1, 5))
WIDE = sets_of(WIDE_READER)[0]
SMALL = (KNOWN + tuple(random_machines(71, 160)) + tuple(turning_machines(72, 30))
         + tuple(random_machines(73, 60, most_rooms=5, most_letters=2)))
LARGE = (chain(24, 4), ring(24), chain(24, 2, back=23), ring(24, 4), WIDE) + tuple(random_machines(74, 6, most_rooms=24))
DRAWN = SMALL + LARGE
NO_MACHINES = NONE_OF_ALL + (WIDE_READER,)
# What is no choice of lines of FORK, which has one line 0, 2, 4, 1, 3.
NO_LINES = NO_TUPLES + (
    (), ((),), ((0, 2, 4, 1, 3), ()), ((0, 2, 4, 1),), ((0, 2, 4, 1, 3, 3),), ((0, 2, 4), (4, 1, 3)), ((0, 2, 4), (1,)),
    ((0, 2, 4, 1, 3, 5),), ((0, 2, 4, 1, -1),), ((0, 1, 2, 3, 4),), ((2, 0), (4, 1, 3)), ((0, 2, 4), (3, 1)),
    (0, 2, 4, 1, 3), [(0, 2, 4, 1, 3)], ([0, 2, 4, 1, 3],), ((0, 2, 4), [1, 3]), ((0, 2, 4, True, 3),),
    ((False, 2, 4, 1, 3),), ((0, 2, 4, None, 3),), ((0, 2, 4, "1", 3),), ((0, 2, 4, (1,), 3),), (None, (0, 2, 4, 1, 3)),
    ("02413",), ({0: 2}, (4, 1, 3)), ((0, 2, 4, 1, 10 ** 60),), ((0, 2, 4, 1, FORK),), (((0, 2, 4, 1, 3),),))
# What is no ascending tuple of rooms of a machine of three rooms.
NO_ROOMS = NO_TUPLES + ((), (1, 0), (0, 0), (0, 3), (-1,), (-1, 0), (True,), (False, 1), (0, True), (None,), (0, None),
                        ("0",), ([0],), ((0,),), ({},), (10 ** 60,), (0, 1, 2, 2), (0, HOOK))


def plain_lines(lot, value):
    """Whether each room of each line of a right arrangement is before the next one."""
    return all((line[at - 1], line[at]) in lot for line in value for at in range(1, len(line)))


def mixed_lots(machine):
    """All ascending tuples of rooms that are mixed two by two."""
    lot = order_lot(machine)
    return [told for told in lots_of(machine.size)
            if not any((one, other) in lot or (other, one) in lot for one, other in combinations(told, 2))]


def full_lots(machine):
    """All lots of full rooms."""
    told = mixed_lots(machine)
    most = max(map(len, told))
    return [rooms for rooms in told if len(rooms) == most]


def not_behind(lot, one, other):
    """Whether each room of the first lot is, or is before, some room of the second one."""
    return all(any(room == further or (room, further) in lot for further in other) for room in one)


class ChoiceTests(Checks):

    def test_examples(self):
        self.examples(EXAMPLES, {**vars(module), **NAMES})

    def test_constants(self):
        self.assertEqual(module.SIDES, ("early", "late"))

    def test_all_choices(self):
        numbers = set()
        for machine in SMALL:
            if machine.size > 5 or machine.size == 5 and machine.letters > 2:
                continue
            lot = order_lot(machine)
            choices = [value for value in arrangements(machine.size) if plain_lines(lot, value)]
            fewest = min(map(len, choices))
            numbers.add(fewest)
            self.assertEqual(line_number(machine), fewest)
            self.assertIn(lines(machine), choices)
            self.assertEqual(len(lines(machine)), fewest)
            right = set(choices)
            for value in arrangements(machine.size) if machine.size < 5 else arrangements(5)[::7]:
                self.assertIs(are_lines(machine, value), value in right)
                self.assertIs(are_fewest_lines(machine, value), value in right and len(value) == fewest)
        self.assertEqual(numbers, {1, 2, 3, 4, 5})

    def test_as_many_lines_as_mixed_rooms(self):
        for machine in SMALL:
            told = mixed_lots(machine)
            self.assertEqual(line_number(machine), max(map(len, told)))
            self.assertLessEqual(line_number(machine), machine.size)
            for rooms in lots_of(machine.size):
                self.assertIs(is_side_by_side(machine, rooms), rooms in told)

    def test_lines_of_large_machines(self):
        for machine in DRAWN:
            told = lines(machine)
            self.assertIs(are_lines(machine, told), True)
            self.assertIs(are_fewest_lines(machine, told), True)
            self.assertEqual(len(told), line_number(machine))
            self.assertTrue(all(is_before(machine, line[at - 1], line[at])
                                for line in told for at in range(1, len(line))))
            full = side_by_side(machine)
            self.assertEqual((len(full), is_side_by_side(machine, full)), (len(told), True))
            self.assertTrue(all(are_mixed(machine, one, other) for one, other in combinations(full, 2)))
            self.assertEqual(lines(machine), told)

    def test_lines_by_words(self):
        for machine in SMALL:
            place = {room: (at, index) for at, line in enumerate(lines(machine)) for index, room in enumerate(line)}
            last = {}
            for word in by_end(all_words(machine.letters, LENGTHS[machine.letters])):
                room = plain_room(machine, word)
                if room is not None:
                    line, index = place[room]
                    self.assertLessEqual(last.get(line, 0), index)
                    last[line] = index

    def test_each_room_of_a_line_is_before_each_later_one(self):
        for machine in DRAWN:
            for line in lines(machine):
                if machine.size < 8 or len(line) < 6:
                    for one, other in combinations(line, 2):
                        self.assertIs(is_before(machine, one, other), True)

    def test_lines_in_any_sequence_and_more_lines(self):
        for machine in DRAWN:
            told = lines(machine)
            self.assertIs(are_fewest_lines(machine, told[::-1]), True)
            alone = tuple((room,) for room in range(machine.size))
            self.assertIs(are_lines(machine, alone), True)
            self.assertIs(are_fewest_lines(machine, alone), line_number(machine) == machine.size)
            for line in told:
                others = tuple(other for other in told if other != line)
                for at in range(1, len(line)):
                    cut = others + (line[at:], line[:at])
                    self.assertEqual((are_lines(machine, cut), are_fewest_lines(machine, cut)), (True, False))
                    left = others + (line[:at] + line[at + 1:], (line[at],))
                    self.assertIs(are_lines(machine, left), True)
                if len(line) > 1:
                    self.assertIs(are_lines(machine, others + (line[::-1],)), False)

    def test_other_sequences_and_returned_machines(self):
        for at, machine in enumerate(SMALL[:80]):
            for told in (shuffled(machine, at), numbered(machine)):
                self.assertEqual(line_number(told), line_number(machine))
                self.assertEqual(len(longest_line(told)), len(longest_line(machine)))
            for told in (least(machine), doubled(machine, at % machine.size)):
                self.assertIs(are_fewest_lines(told, lines(told)), True)

    def test_one_line(self):
        many = 0
        for machine in DRAWN:
            told = one_line_order(machine)
            self.assertEqual(told is not None, line_number(machine) == 1)
            self.assertEqual(told is not None, list(mixed_pairs(machine)) == [])
            if told is not None:
                many += machine.size > 2
                self.assertEqual(lines(machine), (told,))
                self.assertEqual(longest_line(machine), told)
                self.assertEqual([value for value in (arrangements(machine.size) if machine.size < 5 else ())
                                  if len(value) == 1 and are_lines(machine, value)],
                                 [(told,)] if machine.size < 5 else [])
        self.assertGreater(many, 10)

    def test_known_numbers(self):
        self.assertEqual([line_number(machine) for machine in (TWINS, SPLIT, THIRDS, ring(24), chain(24, 4), WIDE)],
                         [1, 1, 3, 24, 23, 5])
        self.assertEqual(lines(chain(24, 1)), (tuple(range(24)),))
        self.assertEqual(sorted(lines(ring(24))), [(room,) for room in range(24)])
        self.assertEqual((one_line_order(ALL), one_line_order(chain(24, 1))), ((0,), tuple(range(24))))
        self.assertEqual((WIDE.size, len(longest_line(WIDE))), (25, 12))

    def test_what_is_not_true(self):
        self.assertGreater(line_number(THIRDS), THIRDS.letters)
        self.assertEqual(full_lots(HOOK), [(1, 2)])
        self.assertEqual((mixed_sets(HOOK)[0], len(longest_line(HOOK)), line_number(HOOK)), ((0,), 2, 2))


class FullTests(Checks):

    def test_early_and_late(self):
        several = 0
        for machine in SMALL:
            lot, full = order_lot(machine), full_lots(machine)
            several += len(full) > 2
            early, late = side_by_side(machine), side_by_side(machine, side="late")
            self.assertIn(early, full)
            self.assertIn(late, full)
            self.assertEqual(side_by_side(machine, side="early"), early)
            for other in full:
                self.assertTrue(not_behind(lot, early, other))
                self.assertTrue(not_behind(lot, other, late))
            self.assertEqual(len(full) == 1, early == late)
        self.assertGreater(several, 10)

    def test_earlier_and_later_by_lines(self):
        for machine in SMALL:
            if machine.size > 5 or machine.size == 5 and machine.letters > 1:
                continue
            lot, full = order_lot(machine), full_lots(machine)
            choices = [value for value in arrangements(machine.size)
                       if len(value) == line_number(machine) and plain_lines(lot, value)]
            for one, other in product(full, repeat=2):
                told = {(tuple(sorted(min(pick(line, one), pick(line, other))[1] for line in choice)),
                         tuple(sorted(max(pick(line, one), pick(line, other))[1] for line in choice)))
                        for choice in choices}
                self.assertEqual(told, {(earlier_of(machine, one, other), later_of(machine, one, other))})

    def test_earlier_and_later_of_all_full_rooms(self):
        for machine in SMALL:
            full = full_lots(machine)
            early, late = full[0], full[0]
            for rooms in full:
                self.assertEqual((earlier_of(machine, rooms, rooms), later_of(machine, rooms, rooms)), (rooms, rooms))
                early, late = earlier_of(machine, rooms, early), later_of(machine, late, rooms)
            self.assertEqual((early, late), (side_by_side(machine), side_by_side(machine, side="late")))

    def test_rooms_that_are_not_full(self):
        for machine in SMALL:
            full = full_lots(machine)
            for rooms in lots_of(machine.size):
                if rooms not in full:
                    self.fails(InvalidOperation, earlier_of, machine, rooms, full[0])
                    self.fails(InvalidOperation, later_of, machine, full[0], rooms)
                    self.fails(InvalidOperation, later_of, machine, rooms, rooms)

    def test_large_machines(self):
        for machine in LARGE:
            early, late = side_by_side(machine), side_by_side(machine, side="late")
            self.assertTrue(not_behind(order_lot(machine), early, late))
            self.assertEqual((earlier_of(machine, late, early), later_of(machine, late, early)), (early, late))
        self.assertEqual(side_by_side(ring(24)), tuple(range(24)))
        self.assertEqual((side_by_side(chain(24, 1)), side_by_side(chain(24, 1), side="late")), ((0,), (23,)))


def pick(line, rooms):
    """The pair of the index in the line and of the one room that it has in common with some rooms."""
    (room,) = [room for room in line if room in rooms]
    return line.index(room), room


class LongestTests(Checks):

    def test_by_all_lines(self):
        for machine in SMALL:
            lot = order_lot(machine)
            told = [(room,) for room in range(machine.size)]
            for line in told:
                told.extend([line + (room,) for room in range(machine.size) if (line[-1], room) in lot])
            most = max(map(len, told))
            self.assertEqual(longest_line(machine), min(line for line in told if len(line) == most))
            self.assertEqual(steps(machine), tuple(max(len(line) for line in told if line[-1] == room)
                                                   for room in range(machine.size)))

    def test_sets_of_one_step(self):
        for machine in DRAWN:
            told, sets = steps(machine), mixed_sets(machine)
            self.assertEqual(len(sets), len(longest_line(machine)))
            self.assertEqual(sorted(room for rooms in sets for room in rooms), list(range(machine.size)))
            for at, rooms in enumerate(sets):
                self.assertIs(is_side_by_side(machine, rooms), True)
                self.assertEqual({told[room] for room in rooms}, {at + 1})
            self.assertGreaterEqual(line_number(machine) * len(longest_line(machine)), machine.size)
            line = longest_line(machine)
            self.assertEqual([told[room] for room in line], list(range(1, len(line) + 1)))
            self.assertTrue(all(is_before(machine, line[at - 1], line[at]) for at in range(1, len(line))))

    def test_no_division_has_fewer_sets(self):
        for machine in SMALL:
            if machine.size < 5:
                mixed = mixed_lots(machine)
                for value in arrangements(machine.size):
                    if all(tuple(sorted(rooms)) in mixed for rooms in value):
                        self.assertGreaterEqual(len(value), len(longest_line(machine)))

    def test_edges(self):
        self.assertEqual((longest_line(ALL), steps(ALL), mixed_sets(ALL)), ((0,), (1,), ((0,),)))
        self.assertEqual((longest_line(chain(24, 1)), steps(chain(24, 1))), (tuple(range(24)), tuple(range(1, 25))))
        self.assertEqual((longest_line(ring(24)), steps(ring(24)), mixed_sets(ring(24))),
                         ((0,), (1,) * 24, (tuple(range(24)),)))


class WrongTests(Checks):

    def test_wrong_machines(self):
        doors = tuple((room + 1,) for room in range(24)) + ((None,),)
        self.fails(InvalidMachine, Machine, 1, doors, (24,))
        for value in NO_MACHINES:
            for call in (line_number, lines, one_line_order, longest_line, steps, mixed_sets, side_by_side):
                self.fails(InvalidMachine, call, value)
            self.fails(InvalidMachine, side_by_side, value, side="last")
            for call in (are_lines, are_fewest_lines, is_side_by_side):
                self.fails(InvalidMachine, call, value, ((0,),))
                self.fails(InvalidMachine, call, value, None)
            for call in (earlier_of, later_of):
                self.fails(InvalidMachine, call, value, None, None)
                self.fails(InvalidMachine, call, value, (0,), (0,))

    def test_no_lines(self):
        for value in NO_LINES:
            self.assertIs(are_lines(FORK, value), False)
            self.assertIs(are_fewest_lines(FORK, value), False)
            self.fails(InvalidLines, stretches, FORK, value, ())
        for value in (((0,), (1,)), ((1,), (0,))):
            self.assertIs(are_fewest_lines(EVEN, value), True)
        for value in (((0,), (True,)), ((False,), (1,)), ((0,), (1,), (1,)), ((0,), (1,), ()), ((0, 1),), ((1, 0),)):
            self.assertIs(are_lines(EVEN, value), False)

    def test_no_rooms(self):
        for value in NO_ROOMS:
            self.assertIs(is_side_by_side(THIRDS, value), False)
            self.assertIs(is_side_by_side(HOOK, value), False)
            for call in (earlier_of, later_of):
                self.fails(InvalidRooms, call, HOOK, value, (1, 2))
                self.fails(InvalidRooms, call, HOOK, value, (0,))
                self.fails(InvalidRooms, call, HOOK, (1, 2), value)
                self.fails(InvalidRooms, call, HOOK, (0,), value)
        for call in (earlier_of, later_of):
            self.fails(InvalidOperation, call, HOOK, (0,), (0, 1))

    def test_wrong_sides(self):
        for given in ("last", "", "Early", "low", True, None, 0, 1, (), ("early",), ["late"], {"late": 1}, FORK):
            self.fails_with(UnknownName, given, side_by_side, FORK, side=given)
        self.fails(TypeError, lambda: side_by_side(FORK, "early"))
