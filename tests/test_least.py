"""[4.1] to [4.6]: least machines."""

from itertools import product

from roomlines.errors import InvalidMachine, InvalidNumber, InvalidOperation, TooMany
from roomlines.mach import least as module
from roomlines.mach.least import (are_alike, check_futures, each_alike, futures, has_ends, language_size, least,
                                  least_told, parting_future, parting_word, rooms_apart, rooms_onto)
from roomlines.mach.machines import Machine, machine_of, numbered
from tests.checks import Checks, first_of
from tests.support import (ALL, EMPTY_WORD, EVEN, FEW, FORK, KNOWN, LONG, NO_NUMBERS, NO_TUPLES, TWINS, WEAVE,
                           all_words, chain, doubled, plain_future, plain_room, random_machines, ring, shuffled,
                           turning_machines)
from tests.test_machines import NO_MACHINES

EXAMPLES = """
>>> TWINS = Machine(2, ((1, 2), (1, None), (2, None)), (1, 2))
>>> FEW = Machine(2, ((1, 1), (None, 2), (None, None)), (1, 2))
>>> [least(TWINS) == Machine(2, ((1, 1), (1, None)), (1,)), futures(TWINS), least(FORK) == FORK, futures(EVEN)]
[True, (0, 1, 1), True, (0, 1)]
>>> [are_alike(TWINS, least(TWINS)), parting_word(TWINS, least(TWINS)), parting_word(ALL, TWINS), parting_word(WEAVE, EVEN)]
[True, None, (), (1,)]
>>> [parting_future(FORK, 1, 4), parting_future(TWINS, 1, 2), parting_future(EVEN, 0, 1)]
[(0, 2), None, ()]
>>> [has_ends(FEW), language_size(FEW), has_ends(WEAVE), language_size(ALL), list(each_alike(ALL, (EVEN, ALL)))]
[True, 4, False, None, [False, True]]
>>> are_alike(ALL, FORK)
raises InvalidOperation
"""
NAMES = {"ALL": ALL, "EVEN": EVEN, "WEAVE": WEAVE, "FORK": FORK, "Machine": Machine}
DRAWN = KNOWN + tuple(random_machines(41, 150)) + tuple(turning_machines(42, 50))


def first_word(words):
    """The first one of a set of words, None if there is none."""
    return min(words, key=lambda word: (len(word), word)) if words else None


class LeastTests(Checks):

    def test_examples(self):
        self.examples(EXAMPLES, {**vars(module), **NAMES})

    def test_one_room_for_each_future(self):
        for machine in DRAWN:
            told, goes = least(machine), futures(machine)
            known = [plain_future(machine, room, machine.size) for room in range(machine.size)]
            for one, other in product(range(machine.size), repeat=2):
                self.assertEqual(goes[one] == goes[other], known[one] == known[other])
            self.assertEqual(set(goes), set(range(told.size)))
            for room in range(told.size):
                self.assertEqual(plain_future(told, room, machine.size), known[goes.index(room)])

    def test_the_machine_goes_onto_the_least_one(self):
        for machine in DRAWN:
            told, goes = least(machine), futures(machine)
            self.assertEqual((goes[0], told.letters), (0, machine.letters))
            for room, row in enumerate(machine.doors):
                self.assertIs(goes[room] in told.good, room in machine.good)
                self.assertEqual(told.doors[goes[room]], tuple(None if goal is None else goes[goal] for goal in row))

    def test_least_machines_are_numbered_and_least(self):
        for machine in DRAWN:
            told = least(machine)
            self.assertEqual(numbered(told), told)
            self.assertEqual(least(told), told)
            self.assertEqual(futures(told), tuple(range(told.size)))
            self.assertEqual(Machine(told.letters, told.doors, told.good), told)

    def test_all_alike_machines_have_one_least_machine(self):
        for at, machine in enumerate(DRAWN):
            double = doubled(machine, at % machine.size)
            if double.size < 24:
                double = doubled(double, (at + 1) % double.size)
            for other in (shuffled(machine, at), double, numbered(machine), shuffled(double, at)):
                self.assertEqual(least(other), least(machine))
                self.assertIs(are_alike(machine, other), True)
                self.assertIsNone(parting_word(machine, other))

    def test_largest(self):
        for letters in (1, 4):
            self.assertEqual(least(chain(24, letters)), chain(24, letters))
            self.assertEqual(least(ring(24, letters)), ring(24, letters))
            whole = ring(24, letters, good=tuple(range(24)))
            self.assertEqual((least(whole).size, futures(whole)), (1, (0,) * 24))
            third = ring(24, letters, good=tuple(range(0, 24, 3)))
            self.assertEqual((least(third), futures(third)), (ring(3, letters), (0, 1, 2) * 8))

    def test_at_most_so_many_futures(self):
        for machine in DRAWN + (ring(24, good=(0, 6, 12, 18)), ring(24, 4, good=tuple(range(24))), chain(12, 2)):
            told = least(machine)
            for most in (1, 2, 5, 8, 9, 400):
                calls = (least_told, rooms_apart, check_futures)
                if told.size > most:
                    for call in calls:
                        self.fails_with(TooMany, most, call, machine, most)
                else:
                    self.assertEqual(least_told(machine, most), told)
                    apart = rooms_apart(machine, most)
                    self.assertEqual((apart.size, least(apart)), (told.size, told))
                    self.assertIsNone(check_futures(machine, most))

    def test_rooms_onto_the_least_machine(self):
        for at, machine in enumerate(DRAWN):
            told = least(machine)
            for other in (machine, told, shuffled(machine, at), doubled(machine, at % machine.size)):
                goes = rooms_onto(other, told)
                self.assertEqual(tuple(goes[room] for room in range(other.size)), futures(other))
            others = [DRAWN[at - step] for step in (1, 2, 3) if DRAWN[at - step].letters == machine.letters]
            for other in others:
                self.assertEqual(rooms_onto(other, told) is not None, are_alike(other, machine))
            # Other good rooms, and one door less, tell other languages.
            for good in product((False, True), repeat=machine.size):
                rooms = tuple(room for room in range(machine.size) if good[room])
                other = machine_of(machine.letters, machine.doors, rooms)
                self.assertEqual(rooms_onto(other, told) is not None, rooms == machine.good)
        self.assertIsNone(rooms_onto(ALL, least(WEAVE)))
        self.assertIsNone(rooms_onto(WEAVE, ALL))

    def test_more_than_24_rooms(self):
        wide = machine_of(2, tuple(((room + 1) % 400, room) for room in range(400)), tuple(range(0, 400, 200)))
        self.assertEqual(least(wide).size, 200)
        self.assertIs(are_alike(wide, least(wide)), True)
        self.assertEqual(futures(wide), tuple(range(200)) * 2)
        self.assertEqual(parting_word(wide, ALL), (0,))
        self.assertEqual(parting_future(wide, 0, 201), ())
        self.assertEqual(parting_future(wide, 1, 2), (0,) * 198)

    def test_wrong_machines(self):
        for value in NO_MACHINES:
            for call in (least, futures, has_ends, language_size):
                self.fails(InvalidMachine, call, value)

    def test_what_is_not_true(self):
        self.assertEqual((TWINS.size, least(TWINS).size, are_alike(TWINS, least(TWINS))), (3, 2, True))
        self.assertEqual((EVEN.doors[0].count(None), EVEN.doors[1].count(None), futures(EVEN)), (0, 0, (0, 1)))
        self.assertIs(has_ends(WEAVE), False)
        self.assertFalse(any(goal == room for room, row in enumerate(WEAVE.doors) for goal in row))


class PartingTests(Checks):

    def test_parting_words(self):
        by_letters = {}
        for machine in DRAWN:
            by_letters.setdefault(machine.letters, []).append(machine)
        for letters, machines in by_letters.items():
            for one, other in zip(machines, machines[1:] + machines[:1]):
                length = min(one.size + other.size - 1, (9, 9, 8, 6, 5)[letters])
                unlike = plain_future(one, 0, length) ^ plain_future(other, 0, length)
                told = parting_word(one, other)
                self.assertEqual(parting_word(other, one), told)
                self.assertIs(are_alike(one, other), told is None)
                if told is None or len(told) <= length:
                    self.assertEqual(told, first_word(unlike))
                else:
                    self.assertEqual(unlike, set())
                if told is not None:
                    self.assertLess(len(told), one.size + other.size)
                    self.assertIsNot(one(told), other(told))

    def test_longest_parting_words(self):
        one, other = ring(24), ring(23)
        self.assertEqual(parting_word(one, other), (0,) * 23)
        full = [ring(size, good=tuple(range(size - 1))) for size in (24, 23)]
        self.assertEqual(parting_word(*full), (0,) * 22)
        nearly = chain(24, 1, good=tuple(range(24)))
        self.assertEqual(parting_word(ring(1), nearly), (0,) * 24)
        self.assertEqual(parting_word(ring(1, 4), chain(24, 4, good=tuple(range(24)))), (0,) * 24)

    def test_first_one_as_tuples_compare(self):
        one = Machine(2, ((1, 1), (1, 1)), (1,))
        other = Machine(2, ((1, 1), (2, None), (2, 2)), (1, 2))
        self.assertEqual(parting_word(one, other), (0, 1))
        self.assertEqual(parting_word(EMPTY_WORD, ALL), (0,))
        self.assertEqual(parting_word(EMPTY_WORD, chain(2, 2, good=(1,))), ())

    def test_parting_futures(self):
        for machine in DRAWN:
            known = [plain_future(machine, room, machine.size) for room in range(machine.size)]
            for one, other in product(range(machine.size), repeat=2):
                told = parting_future(machine, one, other)
                self.assertEqual(told, first_word(known[one] ^ known[other]))
                if told is not None:
                    self.assertLessEqual(len(told), machine.size - 1)
        self.assertEqual(parting_future(chain(24, 4, good=tuple(range(24))), 0, 1), (0,) * 23)

    def test_a_missing_room_has_the_empty_future(self):
        for machine in DRAWN:
            for room in range(machine.size):
                self.assertTrue(plain_future(machine, room, machine.size))

    def test_wrong_machines(self):
        for value in NO_MACHINES:
            for call in (are_alike, parting_word):
                self.fails(InvalidMachine, call, value, None)
                self.fails(InvalidMachine, call, value, ALL)
                self.fails(InvalidMachine, call, ALL, value)
                self.fails(InvalidMachine, call, FORK, value)
            self.fails(InvalidMachine, parting_future, value, None, None)
        for call in (are_alike, parting_word):
            self.fails(InvalidOperation, call, ALL, FORK)
            self.fails(InvalidOperation, call, FORK, ring(1))

    def test_wrong_rooms(self):
        for given in NO_NUMBERS + (2, LONG):
            self.fails_with(InvalidNumber, given, parting_future, EVEN, given, None)
            self.fails_with(InvalidNumber, given, parting_future, EVEN, 1, given)


class SizeTests(Checks):

    def test_sizes(self):
        finite = 0
        for machine in DRAWN:
            many = len(plain_future(machine, 0, machine.size - 1))
            longer = [word for word in all_words(machine.letters, machine.size + 1)
                      if len(word) >= machine.size and plain_room(machine, word) is not None]
            self.assertIs(has_ends(machine), not longer)
            self.assertEqual(language_size(machine), None if longer else many)
            finite += not longer
        self.assertGreater(finite, 20)

    def test_rings_of_words(self):
        for machine in DRAWN:
            turning = any(plain_room(machine, word, room) == room for room in range(machine.size)
                          for word in all_words(machine.letters, min(machine.size, 5))[1:])
            if turning:
                self.assertIs(has_ends(machine), False)

    def test_large_sizes(self):
        for letters in (1, 2, 3, 4):
            self.assertEqual(language_size(chain(24, letters)), letters ** 23)
            whole = chain(24, letters, good=tuple(range(24)))
            self.assertEqual(language_size(whole), sum(letters ** many for many in range(24)))
            self.assertIsNone(language_size(chain(24, letters, back=23)))
            self.assertIs(has_ends(chain(24, letters, back=23)), False)
            self.assertIs(has_ends(ring(24, letters)), False)
            self.assertIs(has_ends(chain(24, letters)), True)
        self.assertEqual((language_size(EMPTY_WORD), language_size(FEW), language_size(ring(1))), (1, 4, None))
        wide = machine_of(4, tuple((room + 1,) * 4 for room in range(399)) + ((None,) * 4,), (399,))
        self.assertEqual(language_size(wide), 4 ** 399)


class EachAlikeTests(Checks):

    def test_each(self):
        told = (ALL, EVEN, WEAVE, TWINS, least(TWINS), shuffled(TWINS, 3), ring(1, 2, good=(0,)))
        for machine in told:
            self.assertEqual(list(each_alike(machine, told)), [are_alike(machine, other) for other in told])
        self.assertEqual(list(each_alike(FORK, ())), [])
        self.assertIs(next(each_alike(ALL, (EVEN, ALL))), False)

    def test_wrong_values(self):
        for value in NO_MACHINES:
            self.fails(InvalidMachine, first_of(each_alike), value, None)
            self.fails(InvalidMachine, first_of(each_alike), value, ())
            self.fails(InvalidMachine, first_of(each_alike), value, (ALL,))
            self.fails(InvalidMachine, first_of(each_alike), ALL, (FORK, value))
            self.fails(InvalidMachine, first_of(each_alike), ALL, (value, ALL))
        for value in NO_TUPLES:
            self.fails(InvalidMachine, first_of(each_alike), ALL, value)
        self.fails(InvalidMachine, first_of(each_alike), ALL, [ALL])
        self.fails(InvalidOperation, first_of(each_alike), ALL, (ALL, FORK))
        self.fails(InvalidOperation, first_of(each_alike), FORK, (FORK, ring(1)))
