"""[8.1] to [8.7]: readers."""

from itertools import combinations, permutations, product
from random import Random

from roomlines.errors import (InvalidMachine, InvalidNumber, InvalidOrder, InvalidReader, InvalidWord, Refused, TooMany)
from roomlines.mach.least import least
from roomlines.mach.machines import Machine, first_words
from roomlines.order import readers as module
from roomlines.order.before import order_of
from roomlines.order.lines import line_number
from roomlines.order.readers import (Reader, are_order_lines, are_stretches, does_keep, is_strict_order, line_order,
                                     order_lines, set_bound, sets_of)
from tests.checks import Checks
from tests.support import (ALL, EVEN, FORK, KNOWN, LONG, NO_NUMBERS, NO_TUPLES, WEAVE, all_words, arrangements, chain,
                           closed, led_set, lined_readers, plain_room, random_machines, random_orders, random_readers,
                           ring, turning_machines)
from tests.test_machines import NO_MACHINES
from tests.test_words import NO_LETTERS, NO_WORDS_OF_2

EXAMPLES = """
>>> TWINS = Reader(1, (((1, 2),), ((),), ((),)), (1, 2))
>>> THRICE = Reader(4, (((1,), (2,), (1, 2), ()), ((), (), (), (1,)), ((), (), (), (2,))), (1, 2))
>>> [TWINS.rooms_of((0,)), THRICE((2, 3, 3)), THRICE((3,)), str(THRICE), line_order(TWINS), line_order(THRICE)]
[(1, 2), True, False, 'reader of 4 letters: 3 rooms, 6 doors', (0, 1, 2), None]
>>> [does_keep(TWINS, ((0, 1), (0, 2), (2, 1))), does_keep(TWINS, ((1, 0),)), are_stretches(TWINS, ((1, 0),)), does_keep(THRICE, ((0, 1), (0, 2), (1, 2)))]
[True, False, True, False]
>>> [sets_of(THRICE)[1], sets_of(THRICE)[0].doors[1], len(order_lines(THRICE, ((0, 1), (0, 2)))), set_bound(3, 2), set_bound(3, 1)]
[((0,), (1,), (2,), (1, 2)), (None, None, None, 1), 2, 7, 5]
>>> Reader(1, (((),), ((0,),)), (0,))
raises Refused(('lost', 1))
"""
TWINS = Reader(1, (((1, 2),), ((),), ((),)), (1, 2))
THRICE = Reader(4, (((1,), (2,), (1, 2), ()), ((), (), (), (1,)), ((), (), (), (2,))), (1, 2))
ALONE = Reader(2, (((), ()),), (0,))
LOOP = Reader(1, (((0,),),), (0,))
# Words with a 0 so many letters ahead of their end: the sets are all lots of rooms that have the room 0.
PAST = Reader(2, (((0, 1), (0,)), ((2,), (2,)), ((3,), (3,)), ((), ())), (3,))
SETS_400 = Reader(2, (((3,), (7,)), ((6,), (9,)), ((), (7, 8)), ((2, 5), (1,)), ((1,), (0,)), ((3, 7), ()),
                      ((0, 3), (3,)), ((4,), ()), ((9,), (4,)), ((8,), (5,))), (9,))
SETS_401 = Reader(2, (((7,), (4,)), ((8,), (5, 8)), ((9,), (3,)), ((), (8,)), ((4,), (9,)), ((5, 9), (0, 4)),
                      ((), (1,)), ((6,), (7,)), ((0,), (6,)), ((3,), (2,))), (9,))
SETS_2048 = Reader(2, tuple([((0, 1), (0,))] + [((room + 1,), (room + 1,)) for room in range(1, 11)] + [((), ())]),
                   (11,))
KNOWN_READERS = (TWINS, THRICE, ALONE, LOOP, PAST)
PLAIN = KNOWN_READERS + tuple(random_readers(81, 200))
LINED = tuple(lined_readers(82, 80))
OF_MACHINES = tuple(Reader.of_machine(machine) for machine in KNOWN + tuple(random_machines(83, 60)))
DRAWN = PLAIN + LINED + OF_MACHINES
LENGTHS = {1: 8, 2: 6, 3: 4, 4: 4}
NO_READERS = (True, None, 0, 1, "TWINS", "", (), (((0,),),), [TWINS], (TWINS,), {}, {0: TWINS}, ALL, EVEN)
# Doors of a reader of two letters with just one thing wrong.
NO_DOORS = NO_TUPLES + ((), (((0,), (0,)),) * 13, ([(0,), ()],), (((0,),),), (((0,), (), ()),), ((0, 0),), ((0, ()),),
                        ((None, ()),), (((0,), None),), (((1,), ()),), (((-1,), ()),), (((True,), ()),),
                        (((False,), ()),), (((0, 0), ()),), (((0,), ()), ((1, 0), ())), (((None,), ()),),
                        ((("0",), ()),), (([0], ()),), ((((0,),), ()),), (((0,), {}),), (((0,), "0"),),
                        (((10 ** 60,), ()),), (((0,), ()), None), (((0,), ()), ()), (((1,), ()), "01"),
                        (((ALL,), ()),))
NO_GOOD = NO_TUPLES + ((1, 0), (0, 0), (0, 2), (-1,), (True,), (False, 1), (None,), (0, None), ("0",), ([0],), ((0,),),
                       (10 ** 60,), (0, 1, 1), (ALL,))
# What is no strict order of three rooms.
NO_ORDERS = NO_TUPLES + (((0, 0),), ((0, 1), (0, 1)), ((1, 0), (0, 2)), ((0, 2), (0, 1)), ((0, 1), (1, 0)),
                         ((0, 1, 2),), ((0,),), ((),), (0, 1), ([0, 1],), ((0, True),), ((False, 1),), ((0, 3),),
                         ((-1, 0),), ((0, None),), ((0, "1"),), ("01",), ((0, (1,)),), (None,), ((0, 10 ** 60),),
                         ((0, 1), (1, 2)), ((0, 1), (1, 2), (2, 0)), ((0, 1), [0, 2]), ((0, ALL),), ({0: 1},))


def plain_marks(reader, room):
    """The set of the letters of the doors into a room, and -1 for the room 0."""
    found = {letter for row in reader.doors for letter, goals in enumerate(row) if room in goals}
    return found | {-1} if room == 0 else found


def plain_keeps(reader, lot):
    """Whether a strict order keeps doors, as [8.3] tells it."""
    rooms = range(reader.size)
    for one, other in lot:
        if any(mark > further for mark, further in product(plain_marks(reader, one), plain_marks(reader, other))):
            return False
        for source, further, letter in product(rooms, rooms, range(reader.letters)):
            if (one in reader.doors[source][letter] and other in reader.doors[further][letter]
                    and source != further and (source, further) not in lot):
                return False
    return True


def pairs_of(line):
    """The order with each room of a line before all behind it."""
    return tuple(sorted(combinations(line, 2)))


def all_sets(reader):
    """All sets, other than the empty one, with the first words that lead to them."""
    found, queue = {frozenset({0}): ()}, [frozenset({0})]
    for rooms in queue:
        for letter in range(reader.letters):
            goals = frozenset(goal for room in rooms for goal in reader.doors[room][letter])
            if goals and goals not in found:
                found[goals] = found[rooms] + (letter,)
                queue.append(goals)
    return found


def plain_stretches(reader, lot):
    """Whether each set has all rooms that are between two rooms of it."""
    return all(room in rooms for rooms in all_sets(reader) for one, room in lot for again, other in lot
               if again == room and one in rooms and other in rooms)


class ReaderTests(Checks):

    def test_examples(self):
        self.examples(EXAMPLES, dict(vars(module)))

    def test_constants(self):
        self.assertEqual((module.MAX_READER, module.MAX_ORDERED, module.MOST_SETS), (12, 7, 400))

    def test_what_is_kept(self):
        for reader in DRAWN:
            same = Reader(reader.letters, reader.doors, reader.good)
            self.assertEqual((same.letters, same.doors, same.good, same.size),
                             (reader.letters, reader.doors, reader.good, len(reader.doors)))
            self.assertEqual((same == reader, same != reader), (True, False))
            many = sum(len(goals) for row in reader.doors for goals in row)
            self.assertEqual(str(reader), f"reader of {reader.letters} letters: {reader.size} rooms, {many} doors")

    def test_words(self):
        for reader in DRAWN:
            for word in all_words(reader.letters, LENGTHS[reader.letters]):
                rooms = led_set(reader, word)
                self.assertEqual(reader.rooms_of(word), tuple(sorted(rooms)))
                self.assertIs(reader(word), bool(rooms & set(reader.good)))
        self.assertEqual((PAST.rooms_of((0,) * 200), PAST((1,) * 200)), ((0, 1, 2, 3), False))
        self.assertEqual((TWINS.rooms_of((0, 0)), TWINS((0, 0)), ALONE.rooms_of(()), ALONE(())), ((), False, (0,), True))

    def test_of_machine(self):
        for machine in KNOWN + tuple(random_machines(84, 60)) + (chain(12, 4), ring(12)):
            reader = Reader.of_machine(machine)
            self.assertEqual((reader.letters, reader.size, reader.good), (machine.letters, machine.size, machine.good))
            for word in all_words(machine.letters, 4):
                room = plain_room(machine, word)
                self.assertEqual(reader.rooms_of(word), () if room is None else (room,))
                self.assertIs(reader(word), machine(word))
        self.assertEqual(Reader.of_machine(least(chain(12, 1))).size, 12)
        for machine in (chain(13, 2), ring(13), ring(24)):
            self.fails_with(TooMany, 12, Reader.of_machine, machine)
        for value in NO_MACHINES + KNOWN_READERS:
            self.fails(InvalidMachine, Reader.of_machine, value)

    def test_the_order_of_a_machine_keeps_doors(self):
        dice = Random(85)
        for machine in KNOWN + tuple(random_machines(86, 60)):
            reader, order = Reader.of_machine(machine), order_of(machine)
            self.assertIs(does_keep(reader, order), True)
            for told in random_orders(dice.random(), machine.size, 20):
                if does_keep(reader, told):
                    self.assertLessEqual(set(told), set(order))

    def test_lost_and_stuck_rooms(self):
        refused = (
            (1, (((),), ((0,),)), (0,), ("lost", 1)),
            (1, (((0,),), ((2,),), ((1,),)), (0, 1, 2), ("lost", 1)),
            (2, (((2,), ()), ((0, 1), ()), ((0,), (2,))), (), ("lost", 1)),
            (2, (((1, 2), ()), ((1,), ()), ((0,), ())), (2,), ("stuck", 1)),
            (2, (((1, 2), ()), ((0,), ()), ((2,), (2,))), (1,), ("stuck", 2)),
            (1, (((),),), (), ("stuck", 0)),
            (1, (((0, 1),), ((),)), (0,), ("stuck", 1)),
            (4, (((0,),) * 4,), (), ("stuck", 0)))
        for letters, doors, good, reason in refused:
            self.fails_with(Refused, reason, Reader, letters, doors, good)
        for reader in DRAWN:
            row = ((),) * reader.letters
            self.fails_with(Refused, ("lost", reader.size), Reader, reader.letters, reader.doors + (row,), reader.good)
            self.fails_with(Refused, ("stuck", 0), Reader, reader.letters, reader.doors, ())
            first = (reader.doors[0][0] + (reader.size,),) + reader.doors[0][1:]
            wider = (first,) + reader.doors[1:] + (row,)
            self.fails_with(Refused, ("stuck", reader.size), Reader, reader.letters, wider, reader.good)
            self.assertEqual(Reader(reader.letters, wider, reader.good + (reader.size,)).size, reader.size + 1)

    def test_numbers_of_rooms(self):
        for rooms in (1, 2, 11, 12):
            doors = tuple(((room + 1,),) for room in range(rooms - 1)) + (((),),)
            self.assertEqual(Reader(1, doors, (rooms - 1,)).size, rooms)
        self.fails(InvalidReader, Reader, 1, tuple(((room + 1,),) for room in range(12)) + (((),),), (12,))

    def test_wrong_letters(self):
        for given in NO_LETTERS + (TWINS,):
            self.fails_with(InvalidNumber, given, Reader, given, None, None)
            self.fails_with(InvalidNumber, given, Reader, given, (((0,),),), (0,))

    def test_wrong_doors_and_good_rooms(self):
        for doors in NO_DOORS:
            for good in ((0,), (), None, (1, 0)):
                self.fails(InvalidReader, Reader, 2, doors, good)
        for good in NO_GOOD:
            for doors in ((((1,), ()), ((0, 1), ())), (((0,), ()), ((0,), ()))):
                self.fails(InvalidReader, Reader, 2, doors, good)

    def test_wrong_words(self):
        for value in NO_WORDS_OF_2 + (TWINS,):
            self.fails(InvalidWord, PAST, value)
            self.fails(InvalidWord, PAST.rooms_of, value)
        self.fails(InvalidWord, LOOP, (0,) * 201)

    def test_objects(self):
        others = (None, True, 2, "", (2, PAST.doors, PAST.good), [], {}, ALL, LOOP, Reader(2, PAST.doors, (0, 3)),
                  Reader(2, (((0, 1), (0, 1)),) + PAST.doors[1:], (3,)))
        for value in others:
            self.assertEqual((PAST == value, PAST != value), (False, True))
        self.assertIs(Reader.of_machine(EVEN) == EVEN, False)
        self.assertIs(LOOP == Reader(2, (((0,), ()),), (0,)), False)
        for name in ("letters", "doors", "good", "size"):
            self.fails(AttributeError, setattr, PAST, name, 1)
        self.fails(TypeError, lambda: list(PAST))
        self.fails(TypeError, lambda: PAST + PAST)


class OrderTests(Checks):

    def test_all_lots_of_three_rooms(self):
        pairs = [pair for pair in product(range(3), repeat=2) if pair[0] != pair[1]]
        for reader in [reader for reader in DRAWN if reader.size == 3][:25]:
            for chosen in product((False, True), repeat=6):
                lot = {pair for pair, taken in zip(pairs, chosen) if taken}
                value = tuple(sorted(lot))
                strict = closed(lot) == lot and not any((other, one) in lot for one, other in lot)
                self.assertIs(is_strict_order(reader, value), strict)
                self.assertIs(does_keep(reader, value), strict and plain_keeps(reader, lot))
                if len(value) > 1:
                    self.assertIs(is_strict_order(reader, value[::-1]), False)

    def test_drawn_orders(self):
        kept = 0
        for at, reader in enumerate(DRAWN):
            for value in random_orders(at, reader.size, 12):
                self.assertIs(is_strict_order(reader, value), True)
                self.assertIs(does_keep(reader, value), plain_keeps(reader, set(value)))
                kept += value != () and does_keep(reader, value)
                if does_keep(reader, value):
                    self.assertFalse(any(other == 0 for _, other in value))
            self.assertIs(does_keep(reader, ()), True)
        self.assertGreater(kept, 50)

    def test_line_order_by_all_sequences(self):
        found = 0
        for reader in DRAWN:
            if reader.size > 5:
                continue
            right = [line for line in permutations(range(reader.size)) if plain_keeps(reader, set(pairs_of(line)))]
            self.assertEqual(line_order(reader), right[0] if right else None)
            found += bool(right) and reader.size > 2
        self.assertGreater(found, 40)

    def test_line_order_of_lined_readers(self):
        for reader in LINED:
            line = tuple(range(reader.size))
            self.assertIs(does_keep(reader, pairs_of(line)), True)
            self.assertEqual(line_order(reader), line)
        shuffled = Reader(2, (((3,), ()), ((), (2,)), ((), (2,)), ((3,), (1,))), (2,))
        self.assertEqual(line_order(shuffled), (0, 3, 1, 2))

    def test_line_order_of_seven_and_eight_rooms(self):
        for reader in lined_readers(87, 30, most_rooms=8):
            if reader.size == 8:
                self.fails_with(TooMany, 7, line_order, reader)
            else:
                self.assertEqual(line_order(reader), tuple(range(reader.size)))
        row = tuple(((room + 1,),) for room in range(6))
        self.assertEqual(line_order(Reader(1, row + (((6,),),), (6,))), (0, 1, 2, 3, 4, 5, 6))
        fan = (((1, 2, 3, 4, 5, 6),),) + (((),),) * 6
        self.assertEqual(line_order(Reader(1, fan, (1, 2, 3, 4, 5, 6))), (0, 1, 2, 3, 4, 5, 6))
        full = Reader(1, (((0, 1, 2, 3, 4, 5, 6),),) * 7, (0,))
        self.assertIs(line_order(full), None)
        self.assertIs(line_order(Reader.of_machine(ring(7))), None)
        self.fails_with(TooMany, 7, line_order, Reader.of_machine(ring(8)))
        self.fails_with(TooMany, 7, line_order, Reader(1, row + (((7,),), ((7,),)), (7,)))

    def test_one_room(self):
        for reader in (ALONE, LOOP):
            self.assertEqual((line_order(reader), order_lines(reader, ()), sets_of(reader)[1]), ((0,), ((0,),), ((0,),)))
            self.assertEqual((is_strict_order(reader, ()), does_keep(reader, ())), (True, True))
            self.assertIs(is_strict_order(reader, ((0, 0),)), False)

    def test_words_to_ordered_rooms(self):
        for reader in LINED:
            lot = pairs_of(range(reader.size))
            words = all_words(reader.letters, LENGTHS[reader.letters] - 1)
            led = [(word[::-1], led_set(reader, word)) for word in words]
            for (one, rooms), (other, further) in product([told for told in led if told[1]], repeat=2):
                for q, r in lot:
                    if q in rooms and r in further and not (q in further and r in rooms):
                        self.assertLess(one, other)

    def test_fewest_lines_of_an_order(self):
        for at, reader in enumerate(DRAWN):
            if reader.size > 4:
                continue
            for order in random_orders(at, reader.size, 5):
                right = [value for value in arrangements(reader.size)
                         if all((line[at - 1], line[at]) in order for line in value for at in range(1, len(line)))]
                fewest = min(map(len, right))
                self.assertIn(order_lines(reader, order), right)
                self.assertEqual(len(order_lines(reader, order)), fewest)
                for value in arrangements(reader.size):
                    self.assertIs(are_order_lines(reader, order, value), value in right and len(value) == fewest)

    def test_lines_of_twelve_rooms(self):
        fan = Reader(1, (((*range(1, 12),),),) + (((),),) * 11, tuple(range(1, 12)))
        for order in random_orders(88, 12, 60) + [(), pairs_of(range(12))]:
            told = order_lines(fan, order)
            self.assertIs(are_order_lines(fan, order, told), True)
            self.assertIs(are_order_lines(fan, order, told[::-1]), True)
            apart = max(len(rooms) for many in range(1, 13) for rooms in combinations(range(12), many)
                        if not any(pair in order for pair in permutations(rooms, 2))) if len(order) > 20 else None
            self.assertIn(apart, (None, len(told)))
            for line in told:
                others = tuple(other for other in told if other != line)
                self.assertIs(are_order_lines(fan, order, others + (line[:-1], line[-1:])), False)
                self.assertIs(are_order_lines(fan, order, others), False)
        self.assertEqual(order_lines(fan, pairs_of(range(12))), (tuple(range(12)),))
        self.assertEqual(len(order_lines(fan, ())), 12)

    def test_wrong_values(self):
        order = ((0, 1), (0, 2))
        right = ((0, 1), (2,))
        self.assertIs(are_order_lines(TWINS, order, right), True)
        for value in NO_TUPLES + ((), right + ((),), ((0, 1),), ((0, 1), (1, 2)), ((0, 1), (2, 2)), ((1, 0), (2,)),
                                  ((0, 1, 2),), ((0,), (1,), (2,)), ((0, True), (2,)), ((False, 1), (2,)), [(0, 1), (2,)],
                                  ([0, 1], (2,)), ((0, 1), 2), ((0, None), (2,)), ((0, "1"), (2,)), ((0, 1), (3,)),
                                  ((0, (1,)), (2,)), (((0, 1), (2,)),), ((0, 1), (2, 10 ** 60)), (None, right), (TWINS,)):
            self.assertIs(are_order_lines(TWINS, order, value), False)

    def test_wrong_orders(self):
        for value in NO_ORDERS + (TWINS,):
            self.assertIs(is_strict_order(TWINS, value), False)
            self.assertIs(does_keep(TWINS, value), False)
            self.fails(InvalidOrder, order_lines, TWINS, value)
            self.fails(InvalidOrder, are_order_lines, TWINS, value, ((0, 1), (2,)))
            self.fails(InvalidOrder, are_stretches, TWINS, value)
            self.fails(InvalidOrder, are_stretches, SETS_2048, value + ((3, 3),) if isinstance(value, tuple) else value)

    def test_wrong_readers(self):
        for value in NO_READERS:
            for call in (is_strict_order, does_keep, order_lines, are_stretches):
                self.fails(InvalidReader, call, value, ())
                self.fails(InvalidReader, call, value, None)
            for call in (line_order, sets_of):
                self.fails(InvalidReader, call, value)
            self.fails(InvalidReader, are_order_lines, value, (), ((0,),))
            self.fails(InvalidReader, are_order_lines, value, None, None)


class SetTests(Checks):

    def test_sets(self):
        for reader in DRAWN:
            machine, sets = sets_of(reader)
            found = all_sets(reader)
            self.assertEqual(sets, tuple(tuple(sorted(rooms)) for rooms in found))
            self.assertEqual(first_words(machine), tuple(found.values()))
            self.assertEqual((machine.letters, machine.size), (reader.letters, len(sets)))
            for word in all_words(reader.letters, LENGTHS[reader.letters] - 1):
                room = plain_room(machine, word)
                self.assertEqual(() if room is None else sets[room], reader.rooms_of(word))
                self.assertIs(machine(word), reader(word))
                self.assertIs(plain_room(machine, word) in machine.good, reader(word))
            if machine.size <= 24:
                self.assertEqual(Machine(machine.letters, machine.doors, machine.good), machine)

    def test_the_empty_set_is_left_out(self):
        machine, sets = sets_of(TWINS)
        self.assertEqual((machine.doors, machine.good, sets), (((1,), (None,)), (1,), ((0,), (1, 2))))
        self.assertEqual(sets_of(ALONE)[0].doors, ((None, None),))

    def test_400_sets_and_401(self):
        self.assertEqual([len(all_sets(reader)) for reader in (SETS_400, SETS_401, SETS_2048)], [400, 401, 2048])
        machine, sets = sets_of(SETS_400)
        self.assertEqual((machine.size, len(sets)), (400, 400))
        self.assertGreater(line_number(machine), 1)
        self.assertIs(are_stretches(SETS_400, ()), True)
        for reader in (SETS_401, SETS_2048):
            self.fails_with(TooMany, 400, sets_of, reader)
            self.fails_with(TooMany, 400, are_stretches, reader, ())
            self.fails_with(TooMany, 400, are_stretches, reader, ((0, 1), (0, 2), (1, 2)))

    def test_machines_of_machines(self):
        for machine in KNOWN + tuple(turning_machines(89, 10)):
            made, sets = sets_of(Reader.of_machine(machine))
            self.assertEqual(sorted(sets), [(room,) for room in range(machine.size)])
            self.assertEqual(least(made), least(machine))

    def test_stretches(self):
        false = 0
        for at, reader in enumerate(DRAWN):
            for order in random_orders(at, reader.size, 8):
                told = are_stretches(reader, order)
                self.assertIs(told, plain_stretches(reader, order))
                false += not told
                if does_keep(reader, order):
                    self.assertIs(told, True)
        self.assertGreater(false, 50)
        self.assertIs(are_stretches(PAST, pairs_of((0, 1, 2, 3))), False)
        self.assertIs(are_stretches(PAST, pairs_of((3, 2, 1, 0))), False)
        self.assertIs(are_stretches(PAST, ()), True)

    def test_bound(self):
        for at, reader in enumerate(DRAWN):
            orders = [order for order in random_orders(at, reader.size, 8) if does_keep(reader, order)]
            if reader.size <= 7 and line_order(reader) is not None:
                orders.append(pairs_of(line_order(reader)))
            machine, sets = sets_of(reader)
            for order in orders:
                many = len(order_lines(reader, order))
                self.assertLessEqual(len(sets), set_bound(reader.size, many))
                self.assertLessEqual(line_number(machine), 2 ** many - 1)

    def test_bound_numbers(self):
        for size in range(1, 13):
            for number in range(1, size + 1):
                self.assertEqual(set_bound(size, number), 2 ** number * (size - number + 1) - 1)
            for given in (size + 1, 13, 0):
                self.fails_with(InvalidNumber, given, set_bound, size, given)
        self.assertEqual((set_bound(1, 1), set_bound(12, 1), set_bound(12, 12)), (1, 23, 4095))
        for given in NO_NUMBERS + (0, 13, LONG, TWINS):
            self.fails_with(InvalidNumber, given, set_bound, given, 1)
            self.fails_with(InvalidNumber, given, set_bound, given, None)
            self.fails_with(InvalidNumber, given, set_bound, 12, given)

    def test_what_is_not_true(self):
        order = ((0, 1), (0, 2))
        self.assertIs(does_keep(THRICE, order), True)
        self.assertEqual((len(order_lines(THRICE, order)), line_number(sets_of(THRICE)[0])), (2, 3))
        self.assertEqual([does_keep(TWINS, ((1, 2),)), does_keep(TWINS, ((2, 1),)), does_keep(TWINS, ((1, 2), (2, 1)))],
                         [True, True, False])
        self.assertEqual((are_stretches(TWINS, ((1, 0),)), does_keep(TWINS, ((1, 0),))), (True, False))
        self.assertEqual([len(sets_of(Reader.of_machine(machine))[1]) for machine in (EVEN, WEAVE, FORK)], [2, 2, 5])
