"""[18.1] to [18.5]: how many words, and which."""

from itertools import islice, product

from roomlines.base.endless import Endless
from roomlines.deeds import counts as module
from roomlines.deeds.counts import (between, counted, counted_ending, first_lengths, next_word, nth_word, place_of,
                                    room_counts, word_ahead)
from roomlines.errors import InvalidMachine, InvalidNumber, InvalidOperation, InvalidWord
from roomlines.mach.least import least
from roomlines.mach.machines import Machine, machine_of
from roomlines.unfold.unfolded import unfolded
from tests.checks import Checks, first_of
from tests.support import (ALL, EMPTY_WORD, EVEN, FORK, KNOWN, LONG, NO_NUMBERS, TOO_LONG, WEAVE, by_end, chain,
                           doubled, plain_room, random_machines, ring, turning_machines)
from tests.test_lines import NO_MACHINES
from tests.test_words import NO_WORDS_OF_2

EXAMPLES = """
>>> [counted(EVEN, 3), counted(ALL, 5), counted(WEAVE, 4), counted(WEAVE, 3), counted(ALL, 10)]
[4, 32, 1, 0, 1024]
>>> [room_counts(EVEN, 3), room_counts(WEAVE, 2), room_counts(FORK, 2), counted_ending(EVEN, (0,), 3), counted_ending(EVEN, (0, 0, 0, 0), 3)]
[(4, 4), (1, 0), (0, 0, 1, 1, 0), 2, 0]
>>> [[nth_word(EVEN, 3, index) for index in range(4)], nth_word(ALL, 2, 1), place_of(EVEN, (0, 0, 1)), place_of(EVEN, (1, 1, 0)), place_of(ALL, (1, 1))]
[[(1, 0, 0), (0, 1, 0), (0, 0, 1), (1, 1, 1)], (1, 0), 2, 2, 3]
>>> [next_word(EVEN, (0, 1, 0)), next_word(EVEN, (1, 1, 1)), word_ahead(EVEN, (1, 1, 0)), word_ahead(EVEN, (1, 0, 0)), list(between(ALL, (0, 0), (1, 1)))]
[(0, 0, 1), None, (0, 1, 0), None, [(1, 0), (0, 1)]]
>>> [first_lengths(WEAVE, 3), first_lengths(FORK, 4), first_lengths(Machine(2, ((1, 1), (None, None)), (1,)), 5)]
[(0, 2, 4), (1, 3, 5, 7), (1,)]
>>> nth_word(WEAVE, 3, 0)
raises InvalidOperation
"""
NAMES = {"ALL": ALL, "EVEN": EVEN, "WEAVE": WEAVE, "FORK": FORK, "Machine": Machine}
LENGTHS = {1: 9, 2: 6, 3: 4, 4: 3}
DRAWN = (KNOWN + tuple(random_machines(181, 60)) + tuple(turning_machines(182, 20))
         + tuple(random_machines(183, 50, most_rooms=4, most_letters=2)) + (chain(6, 3), chain(4, 2, good=(1, 3)), ring(5)))
LENGTH_CALLS = (counted, room_counts)
WORD_CALLS = (place_of, next_word, word_ahead)


def words_with(machine, length):
    """All words with the length, in order, and those of them that are in the language."""
    every = by_end(product(range(machine.letters), repeat=length))
    return every, [word for word in every if machine(word)]


class CountTests(Checks):

    def test_examples(self):
        self.examples(EXAMPLES, {**vars(module), **NAMES})

    def test_constants(self):
        self.assertEqual((module.MAX_LENGTH, module.MOST_BETWEEN), (200, 12))

    def test_numbers(self):
        for machine in DRAWN:
            for length in range(LENGTHS[machine.letters] + 1):
                every, words = words_with(machine, length)
                self.assertEqual(counted(machine, length), len(words))
                rooms = [plain_room(machine, word) for word in every]
                self.assertEqual(room_counts(machine, length), tuple(map(rooms.count, range(machine.size))))
                for many in range(length + 1):
                    for end in list(product(range(machine.letters), repeat=many))[:20]:
                        right = sum(word[length - many:] == end for word in words)
                        self.assertEqual(counted_ending(machine, end, length), right)
                self.assertEqual(counted_ending(machine, (0,) * (length + 1), length), 0)

    def test_great_numbers(self):
        self.assertEqual(counted(ALL, 200), 2 ** 200)
        self.assertEqual(counted(Machine(4, ((0,) * 4,), (0,)), 200), 4 ** 200)
        self.assertEqual((counted(EVEN, 200), room_counts(EVEN, 200)), (2 ** 199, (2 ** 199,) * 2))
        self.assertEqual((counted(WEAVE, 200), counted(WEAVE, 199), room_counts(WEAVE, 199)), (1, 0, (0, 1)))
        self.assertEqual((counted_ending(ALL, (1,) * 100, 200), counted_ending(ALL, (0,) * 200, 200)), (2 ** 100, 1))
        self.assertEqual((counted_ending(ALL, (0,) * 200, 199), counted_ending(WEAVE, (0, 1) * 100, 200)), (0, 1))
        self.assertEqual((counted(EMPTY_WORD, 0), counted(EMPTY_WORD, 1), counted(EMPTY_WORD, 200)), (1, 0, 0))
        self.assertEqual((room_counts(EMPTY_WORD, 0), room_counts(EMPTY_WORD, 1)), ((1,), (0,)))

    def test_indices(self):
        for machine in DRAWN:
            for length in range(LENGTHS[machine.letters] + 1):
                every, words = words_with(machine, length)
                self.assertEqual([nth_word(machine, length, index) for index in range(len(words))], words)
                for index in (len(words), len(words) + 1, LONG):
                    self.fails(InvalidOperation, nth_word, machine, length, index)
                place = 0
                for word in every:
                    self.assertEqual(place_of(machine, word), place)
                    place += place < len(words) and words[place] == word

    def test_neighbours(self):
        for machine in DRAWN:
            for length in range(LENGTHS[machine.letters] + 1):
                every, words = words_with(machine, length)
                for word in every:
                    behind = [told for told in words if told[::-1] > word[::-1]]
                    ahead = [told for told in words if told[::-1] < word[::-1]]
                    self.assertEqual(next_word(machine, word), behind[0] if behind else None)
                    self.assertEqual(word_ahead(machine, word), ahead[-1] if ahead else None)

    def test_long_words(self):
        self.assertEqual(nth_word(ALL, 200, 0), (0,) * 200)
        self.assertEqual(nth_word(ALL, 200, 5), (1, 0, 1) + (0,) * 197)
        self.assertEqual(place_of(ALL, (0,) * 199 + (1,)), 2 ** 199)
        self.assertEqual(place_of(ALL, (1,) * 200), 2 ** 200 - 1)
        self.assertEqual(next_word(ALL, (1,) * 199 + (0,)), (0,) * 199 + (1,))
        self.assertEqual(word_ahead(ALL, (0,) * 199 + (1,)), (1,) * 199 + (0,))
        self.assertEqual((next_word(ALL, (1,) * 200), word_ahead(ALL, (0,) * 200)), (None, None))
        word = nth_word(EVEN, 200, LONG)
        self.assertEqual((EVEN(word), place_of(EVEN, word), place_of(EVEN, next_word(EVEN, word))), (True, LONG, LONG + 1))
        self.assertEqual((next_word(WEAVE, (0,) * 200), word_ahead(WEAVE, (1,) * 200)), ((0, 1) * 100,) * 2)
        self.assertEqual((next_word(WEAVE, (0, 1) * 100), word_ahead(WEAVE, (0, 1) * 100)), (None, None))

    def test_alike_machines(self):
        for at, machine in enumerate(DRAWN):
            for other in (least(machine), doubled(machine, at % machine.size), unfolded(machine, 2)):
                for length in (3, 5):
                    number = counted(machine, length)
                    self.assertEqual(counted(other, length), number)
                    self.assertEqual(counted_ending(other, (0,), length), counted_ending(machine, (0,), length))
                    for index in range(0, number, 7):
                        self.assertEqual(nth_word(other, length, index), nth_word(machine, length, index))
                for word in product(range(machine.letters), repeat=3):
                    self.assertEqual([call(other, word) for call in WORD_CALLS], [call(machine, word) for call in WORD_CALLS])

    def test_between(self):
        for machine in DRAWN:
            for length in range(LENGTHS[machine.letters]):
                every, words = words_with(machine, length)
                for one, other in list(product(every, repeat=2))[::7]:
                    first, last = sorted((one[::-1], other[::-1]))
                    right = [word for word in words if first < word[::-1] < last]
                    self.assertEqual(list(between(machine, one, other)), right)
        self.assertEqual(list(between(ALL, (), ())), [])
        low, high = (0,) * 12, (1,) * 12
        for one, other in ((low, high), (high, low)):
            told = list(between(ALL, one, other))
            self.assertEqual((len(told), told[0], told[-1]), (4094, (1,) + (0,) * 11, (0,) + (1,) * 11))
        self.assertEqual(len(list(between(EVEN, low, high))), 2046)
        wide = Machine(4, ((0,) * 4,), (0,))
        told = list(islice(between(wide, (0,) * 12, (3,) * 12), 3))
        self.assertEqual(told, [(1,) + (0,) * 11, (2,) + (0,) * 11, (3,) + (0,) * 11])
        self.assertEqual(list(between(wide, (2,) * 12, (0, 3) + (2,) * 10)),
                         [(3,) + (2,) * 11])

    def test_first_lengths(self):
        for machine in DRAWN:
            right = []
            for length in range(200):
                if counted(machine, length):
                    right.append(length)
                if len(right) == 20:
                    break
            for many in (0, 1, 2, 19, 20):
                self.assertEqual(first_lengths(machine, many), tuple(right[:many]))
        self.assertEqual((first_lengths(EMPTY_WORD, 20), first_lengths(EMPTY_WORD, 0)), ((0,), ()))
        self.assertEqual(first_lengths(ring(24), 20), tuple(range(0, 480, 24)))
        large = machine_of(1, tuple(((room + 1) % 400,) for room in range(400)), (399,))
        self.assertEqual(first_lengths(large, 20), tuple(range(399, 8000, 400)))
        self.assertEqual(first_lengths(chain(24, 4), 20), (23,))

    def test_large_machines(self):
        large = unfolded(ALL, 7)
        self.assertEqual((large.size, counted(large, 200)), (255, 2 ** 200))
        self.assertEqual((nth_word(large, 200, 5), place_of(large, (1,) * 200)), ((1, 0, 1) + (0,) * 197, 2 ** 200 - 1))
        self.assertEqual(sum(room_counts(large, 100)), 2 ** 100)

    def test_what_is_not_true(self):
        self.assertEqual((place_of(ALL, (1, 0)), place_of(ALL, (0, 1))), (1, 2))
        zero, one = Machine(2, ((1, 0), (1, 0)), (1,)), Machine(2, ((0, 1), (0, 1)), (1,))
        self.assertEqual([counted(zero, length) for length in range(9)], [counted(one, length) for length in range(9)])
        self.assertNotEqual(least(zero), least(one))
        self.assertEqual((place_of(ALL, (1, 1)), place_of(EVEN, (1, 1))), (3, 1))


class WrongTests(Checks):

    def test_wrong_machines(self):
        for value in NO_MACHINES:
            for call in LENGTH_CALLS + (first_lengths,):
                self.fails(InvalidMachine, call, value, None)
                self.fails(InvalidMachine, call, value, 1)
            for call in WORD_CALLS:
                self.fails(InvalidMachine, call, value, None)
                self.fails(InvalidMachine, call, value, (0,))
            self.fails(InvalidMachine, counted_ending, value, None, None)
            self.fails(InvalidMachine, nth_word, value, None, None)
            self.fails(InvalidMachine, first_of(between), value, None, None)

    def test_wrong_lengths(self):
        for value in NO_NUMBERS + (201, LONG):
            for call in LENGTH_CALLS:
                self.fails_with(InvalidNumber, value, call, WEAVE, value)
            self.fails_with(InvalidNumber, value, nth_word, WEAVE, value, None)
            self.fails_with(InvalidNumber, value, nth_word, WEAVE, value, 5)
            self.fails_with(InvalidNumber, value, counted_ending, WEAVE, (0,), value)
            self.fails_with(InvalidNumber, value, counted_ending, WEAVE, (0,) * 200, value)
        for value in NO_NUMBERS + (21, LONG):
            self.fails_with(InvalidNumber, value, first_lengths, WEAVE, value)

    def test_wrong_indices(self):
        for value in NO_NUMBERS:
            self.fails_with(InvalidNumber, value, nth_word, WEAVE, 2, value)
            self.fails_with(InvalidNumber, value, nth_word, WEAVE, 3, value)
        self.fails_with(InvalidNumber, TOO_LONG, nth_word, ALL, 200, TOO_LONG)
        self.assertEqual(place_of(ALL, nth_word(ALL, 200, TOO_LONG - 1)), TOO_LONG - 1)
        for length, index in ((2, 1), (3, 0), (0, 1), (200, 1), (2, LONG)):
            self.fails(InvalidOperation, nth_word, WEAVE, length, index)

    def test_wrong_words(self):
        for value in NO_WORDS_OF_2 + ((0,) * 201, Endless(2, (0,))):
            for call in WORD_CALLS:
                self.fails(InvalidWord, call, WEAVE, value)
            self.fails(InvalidWord, counted_ending, WEAVE, value, None)
            self.fails(InvalidWord, counted_ending, WEAVE, value, 3)
            self.fails(InvalidWord, first_of(between), WEAVE, value, None)
            self.fails(InvalidWord, first_of(between), WEAVE, value, (0,))
            self.fails(InvalidWord, first_of(between), WEAVE, (0,), value)
            self.fails(InvalidWord, first_of(between), WEAVE, (0,) * 13, value)

    def test_words_of_unlike_and_great_lengths(self):
        for one, other in (((0,), ()), ((), (0,)), ((0,) * 12, (0,) * 11), ((0,) * 13, (1,) * 13),
                           ((0,) * 200, (1,) * 200), ((0,) * 13, (0,) * 12)):
            self.fails(InvalidOperation, first_of(between), ALL, one, other)
        between(None, None, None)
