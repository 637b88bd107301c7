"""[3.1] to [3.5]: machines."""

from roomlines.errors import InvalidMachine, InvalidNumber, InvalidOperation, InvalidWord, Refused
from roomlines.mach import machines as module
from roomlines.mach.least import are_alike, least
from roomlines.mach.machines import Machine, are_renamed, beginnings, first_words, numbered, words_to_room
from tests.checks import Checks, first_of
from tests.support import (ALL, EVEN, FORK, KNOWN, LONG, NO_NUMBERS, NO_TUPLES, TWINS, WEAVE, all_words, by_end, chain,
                           doubled, plain_room, plain_words, random_machines, ring, shuffled, turning_machines)
from tests.test_words import NO_LETTERS, NO_WORDS_OF_2

EXAMPLES = """
>>> [EVEN((0, 1, 0)), EVEN((0,)), WEAVE.leads(0, (0, 1)), WEAVE.leads(0, (1,)), FORK.leads(1, (0, 2)), FORK.ways_in(1), str(WEAVE)]
[True, False, 0, None, 1, ((1, 0), (2, 2)), 'machine of 2 letters: 2 rooms, 1 good']
>>> TRIM = Machine.trimmed(2, ((1, 2), (None, None), (2, 2)), (1,))
>>> [TRIM.doors, TRIM.good, first_words(FORK), numbered(Machine(2, ((2, 1), (None, None), (None, 0)), (1,))).doors]
[((1, None), (None, None)), (1,), ((), (1,), (1, 0), (1, 2), (1, 2, 0)), ((1, 2), (None, 0), (None, None))]
>>> [words_to_room(WEAVE, 1, 5), list(beginnings(WEAVE, 3)), are_renamed(ALL, Machine(2, ((1, 1), (0, 0)), (0, 1)))]
[((0,), (0, 1, 0), (0, 1, 0, 1, 0)), [(), (0,), (0, 1, 0), (0, 1)], False]
>>> Machine(2, ((0, 0), (0, 0)), (0,))
raises Refused(('lost', 1))
"""
NAMES = {"ALL": ALL, "EVEN": EVEN, "WEAVE": WEAVE, "FORK": FORK}
NO_MACHINES = (True, None, 0, 1, "ALL", "", (), ((0, 0),), ((0, 0),) * 2, [ALL], (ALL,), {}, {0: ALL})
LENGTHS = {1: 8, 2: 6, 3: 4, 4: 3}
DRAWN = KNOWN + tuple(random_machines(31, 120)) + tuple(turning_machines(32, 40))
# Doors of two letters and good rooms with just one thing wrong.
NO_DOORS = NO_TUPLES + ((), ((0, 0),) * 25, ([0, 0],), ((0,),), ((0, 0, 0),), (0, 0), ((0, 1),), ((0, -1),),
                        ((0, True),), ((False, 0),), ((0, "0"),), ((0, (0,)),), ((0, [0]),), ((0, ""),),
                        ((0, 10 ** 60),), ((0, 0), (1, 2)), ((0, 0), None), ((1, 0), "01"), ((0, 0), ()),
                        ((1, 1), {0: 1, 1: 1}), ((0, ALL),), (((0, 0),),))
NO_GOOD = NO_TUPLES + ((1, 0), (0, 0), (0, 2), (-1,), (True,), (False, 1), (None,), (0, None), ("0",), ([0],), ((0,),),
                       (10 ** 60,), (0, 1, 1), (ALL,))


class MakingTests(Checks):

    def test_examples(self):
        self.examples(EXAMPLES, {**vars(module), **NAMES})

    def test_constants(self):
        self.assertEqual((module.MAX_ROOMS, module.MOST_ROOMS, module.MOST_LENGTH), (24, 400, 8))

    def test_what_is_kept(self):
        for machine in DRAWN:
            same = Machine(machine.letters, machine.doors, machine.good)
            self.assertEqual((same.letters, same.doors, same.good), (machine.letters, machine.doors, machine.good))
            self.assertEqual(same.size, len(machine.doors))
            self.assertIs(same == machine, True)
            self.assertIs(same != machine, False)
        self.assertEqual(str(ALL), "machine of 2 letters: 1 rooms, 1 good")
        self.assertEqual(str(chain(24, 4)), "machine of 4 letters: 24 rooms, 1 good")

    def test_numbers_of_rooms_and_letters(self):
        for letters in (1, 2, 3, 4):
            for rooms in (1, 2, 23, 24):
                machine = chain(rooms, letters)
                self.assertEqual((machine.size, machine.letters), (rooms, letters))
                self.assertEqual(Machine.trimmed(letters, machine.doors, machine.good), machine)
            doors = tuple((room + 1,) * letters for room in range(24)) + ((None,) * letters,)
            self.fails(InvalidMachine, Machine, letters, doors, (24,))
            self.fails(InvalidMachine, Machine.trimmed, letters, doors, (24,))
            self.fails(InvalidMachine, Machine, letters, (), ())

    def test_wrong_letters(self):
        for given in NO_LETTERS:
            self.fails_with(InvalidNumber, given, Machine, given, None, None)
            self.fails_with(InvalidNumber, given, Machine.trimmed, given, None, None)

    def test_wrong_doors(self):
        for doors in NO_DOORS:
            for good in ((0,), (), None, (1, 0)):
                self.fails(InvalidMachine, Machine, 2, doors, good)
                self.fails(InvalidMachine, Machine.trimmed, 2, doors, good)

    def test_wrong_good_rooms(self):
        for good in NO_GOOD:
            for doors in (((1, 0), (0, 1)), ((0, 0), (0, 0)), ((1, 1), (1, 1))):
                self.fails(InvalidMachine, Machine, 2, doors, good)
                self.fails(InvalidMachine, Machine.trimmed, 2, doors, good)

    def test_lost_and_stuck_rooms(self):
        refused = (
            (2, ((0, 0), (0, 0), (1, 1)), (0,), ("lost", 1)),
            (2, ((2, 0), (0, 0), (0, 0)), (), ("lost", 1)),
            (1, ((0,), (2,), (1,)), (0, 1, 2), ("lost", 1)),
            (2, ((1, 2), (None, 1), (2, 2)), (0,), ("stuck", 1)),
            (2, ((1, 2), (0, None), (2, 2)), (0,), ("stuck", 2)),
            (1, ((None,),), (), ("stuck", 0)),
            (4, ((0, 0, 0, 0),), (), ("stuck", 0)),
            (1, ((1,), (1,)), (0,), ("stuck", 1)),
            (2, ((2, None), (0, 0), (2, 2)), (0,), ("lost", 1)))
        for letters, doors, good, reason in refused:
            self.fails_with(Refused, reason, Machine, letters, doors, good)

    def test_every_lost_or_stuck_room_is_found(self):
        for machine in DRAWN:
            if machine.size < 24:
                letters, doors, good = machine.letters, machine.doors, machine.good
                row = (None,) * letters
                self.fails_with(Refused, ("lost", machine.size), Machine, letters, doors + (row,), good)
                self.fails_with(Refused, ("stuck", 0), Machine, letters, doors, ())
                for room in range(machine.size):
                    if None in doors[room]:
                        at = doors[room].index(None)
                        new = doors[room][:at] + (machine.size,) + doors[room][at + 1:]
                        wider = doors[:room] + (new,) + doors[room + 1:] + (row,)
                        self.fails_with(Refused, ("stuck", machine.size), Machine, letters, wider, good)
                        self.assertEqual(Machine.trimmed(letters, wider, good), machine)

    def test_trimmed(self):
        told = Machine.trimmed(2, ((3, 1), (1, 1), (3, 3), (0, 4), (None, 0)), (2, 4))
        self.assertEqual((told.doors, told.good), (((1, None), (0, 2), (None, 0)), (2,)))
        alone = Machine.trimmed(2, ((1, 0), (1, 1), (0, 0)), (0, 2))
        self.assertEqual((alone.doors, alone.good), (((None, 0),), (0,)))
        for good in ((), (1,), (1, 2)):
            self.fails_with(Refused, ("empty",), Machine.trimmed, 1, ((0,), (0,), (1,)), good)
        for at, machine in enumerate(DRAWN):
            for told in (machine, shuffled(machine, at)):
                self.assertEqual(Machine.trimmed(told.letters, told.doors, told.good), told)

    def test_trimmed_has_the_same_words(self):
        doors = ((1, 4, 5), (1, 2, 0), (2, None, 2), (0, 3, 1), (None, 5, 5), (5, 0, 4))
        for good in ((0,), (1,), (2,), (3, 5), (4,), (1, 2, 3), (0, 5)):
            told = Machine.trimmed(3, doors, good)
            for word in all_words(3, 5):
                room = 0
                for letter in word:
                    room = None if room is None else doors[room][letter]
                self.assertIs(told(word), room in good)

    def test_what_is_not_true(self):
        told = Machine(2, ((1, 1), (0, 0)), (0, 1))
        self.assertEqual((are_alike(ALL, told), are_renamed(ALL, told)), (True, False))
        self.fails_with(Refused, ("stuck", 0), Machine, ALL.letters, ALL.doors, ())
        self.assertIn((0, 1), list(beginnings(WEAVE, 2)))
        self.assertNotIn((1,), list(beginnings(WEAVE, 2)))


class ObjectTests(Checks):

    def test_words_that_lead(self):
        for machine in DRAWN:
            for word in all_words(machine.letters, 4):
                self.assertIs(machine(word), plain_room(machine, word) in machine.good)
                for room in range(machine.size):
                    self.assertEqual(machine.leads(room, word), plain_room(machine, word, room))
        self.assertIs(EVEN((0,) * 200), True)
        self.assertIs(EVEN((0,) * 199), False)
        self.assertEqual(EVEN.leads(1, (0,) * 199 + (1,)), 0)
        self.assertEqual(FORK.leads(3, ()), 3)

    def test_ways_in(self):
        for machine in DRAWN:
            for room in range(machine.size):
                told = tuple((letter, other) for letter in range(machine.letters) for other in range(machine.size)
                             if machine.doors[other][letter] == room)
                self.assertEqual(machine.ways_in(room), told)

    def test_equal_to_nothing_else(self):
        others = (None, True, 2, "", ((0, 0),), (0,), (2, ((0, 0),), (0,)), [], {}, EVEN, Machine(1, ((0,),), (0,)),
                  Machine(2, ((0, None),), (0,)))
        for value in others:
            self.assertIs(ALL == value, False)
            self.assertIs(ALL != value, True)
        self.assertIs(Machine(1, ((1,), (0,)), (0,)) == Machine(1, ((1,), (0,)), (0, 1)), False)

    def test_never_changes(self):
        for name in ("letters", "doors", "good", "size"):
            self.fails(AttributeError, setattr, EVEN, name, 1)
        self.fails(TypeError, lambda: list(EVEN))
        self.fails(TypeError, lambda: EVEN + EVEN)

    def test_wrong_words_and_rooms(self):
        for value in NO_WORDS_OF_2:
            self.fails(InvalidWord, EVEN, value)
            self.fails(InvalidWord, EVEN.leads, 1, value)
        for given in NO_NUMBERS + (2, LONG):
            self.fails_with(InvalidNumber, given, EVEN.leads, given, None)
            self.fails_with(InvalidNumber, given, EVEN.ways_in, given)


class WordTests(Checks):

    def test_first_words(self):
        for machine in DRAWN:
            told = first_words(machine)
            self.assertEqual(len(told), machine.size)
            for room in range(machine.size):
                leading = [word for word in all_words(machine.letters, machine.size - 1)
                           if plain_room(machine, word) == room]
                self.assertEqual(told[room], leading[0])
        self.assertEqual(first_words(chain(24, 4))[23], (0,) * 23)
        self.assertEqual(first_words(ALL), ((),))

    def test_numbered(self):
        for machine in DRAWN:
            told = numbered(machine)
            words = first_words(told)
            self.assertEqual(list(words), sorted(first_words(machine), key=lambda word: (len(word), word)))
            self.assertEqual(list(words), sorted(words, key=lambda word: (len(word), word)))
            self.assertEqual(numbered(told), told)
            self.assertEqual((told.letters, told.size), (machine.letters, machine.size))
            for word in all_words(machine.letters, LENGTHS[machine.letters]):
                self.assertIs(told(word), machine(word))

    def test_renamed(self):
        for at, machine in enumerate(DRAWN):
            for seed in (at, at + 1000):
                told = shuffled(machine, seed)
                self.assertIs(are_renamed(machine, told), True)
                self.assertEqual(numbered(machine), numbered(told))
        self.assertIs(are_renamed(TWINS, least(TWINS)), False)
        for at, machine in enumerate(DRAWN):
            double = doubled(machine, at % machine.size)
            if double.size > machine.size:
                self.assertIs(are_renamed(machine, double), False)

    def test_words_to_rooms(self):
        for machine in DRAWN:
            length = LENGTHS[machine.letters]
            for room in range(machine.size):
                for many in (0, 1, length):
                    self.assertEqual(words_to_room(machine, room, many), plain_words(machine, room, many))

    def test_beginnings(self):
        for machine in DRAWN:
            for length in (0, 1, 2, LENGTHS[machine.letters]):
                told = by_end([word for word in all_words(machine.letters, length)
                               if plain_room(machine, word) is not None])
                self.assertEqual(list(beginnings(machine, length)), told)

    def test_longest(self):
        self.assertEqual(words_to_room(chain(9, 4), 8, 8)[::4 ** 8 - 1], ((0,) * 8, (3,) * 8))
        self.assertEqual(len(words_to_room(ring(1, 4), 0, 8)), (4 ** 9 - 1) // 3)
        self.assertEqual(words_to_room(chain(10, 4), 9, 8), ())
        self.assertEqual(list(beginnings(chain(24, 1), 8)), [(0,) * many for many in range(9)])
        self.assertEqual(list(beginnings(FORK, 0)), [()])

    def test_beginnings_begin_with_beginnings(self):
        for machine in DRAWN:
            told = list(beginnings(machine, 4))
            for word in told:
                self.assertTrue(word == () or word[:-1] in told)

    def test_wrong_machines(self):
        for value in NO_MACHINES:
            self.fails(InvalidMachine, first_words, value)
            self.fails(InvalidMachine, numbered, value)
            self.fails(InvalidMachine, are_renamed, value, None)
            self.fails(InvalidMachine, are_renamed, value, ALL)
            self.fails(InvalidMachine, are_renamed, ALL, value)
            self.fails(InvalidMachine, words_to_room, value, None, None)
            self.fails(InvalidMachine, first_of(beginnings), value, None)
        self.fails(InvalidMachine, are_renamed, FORK, None)
        self.fails(InvalidOperation, are_renamed, FORK, ALL)
        self.fails(InvalidOperation, are_renamed, ALL, FORK)

    def test_wrong_rooms_and_lengths(self):
        for given in NO_NUMBERS + (5, LONG):
            self.fails_with(InvalidNumber, given, words_to_room, FORK, given, 9)
        for given in NO_NUMBERS + (9, LONG):
            self.fails_with(InvalidNumber, given, words_to_room, FORK, 4, given)
            self.fails_with(InvalidNumber, given, first_of(beginnings), FORK, given)

    def test_returned_machines_are_passed_on(self):
        for machine in DRAWN[:40]:
            for told in (numbered(machine), least(machine),
                         Machine.trimmed(machine.letters, machine.doors, machine.good)):
                self.assertEqual(Machine(told.letters, told.doors, told.good), told)
                self.assertEqual(numbered(numbered(told)), numbered(told))
                self.assertEqual(list(beginnings(told, 3)), list(beginnings(machine, 3)))
