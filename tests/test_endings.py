"""[9.1] to [9.6]: rooms behind ends of words."""

from itertools import product

from roomlines.errors import InvalidLines, InvalidMachine, InvalidNumber, InvalidOperation, InvalidWord
from roomlines.find import endings as module
from roomlines.find.endings import Index, door_counts, door_goals, first_missing, rooms_behind, stretches
from roomlines.mach.least import least
from roomlines.mach.machines import Machine, first_words, machine_of
from roomlines.order.lines import line_number, lines
from roomlines.order.readers import Reader
from tests.checks import Checks
from tests.support import (ALL, EMPTY_WORD, EVEN, FEW, FORK, HOOK, KNOWN, LONG, NO_NUMBERS, NO_TUPLES, WEAVE, all_words,
                           chain, plain_room, random_machines, ring, shuffled, turning_machines)
from tests.test_lines import NO_LINES, NO_MACHINES, WIDE
from tests.test_words import NO_WORDS_OF_2

EXAMPLES = """
>>> LINE, PAIR = ((0, 2, 4, 1, 3),), ((0,), (1,))
>>> [rooms_behind(FORK, ()), rooms_behind(FORK, (0,)), rooms_behind(FORK, (0, 2)), rooms_behind(FORK, (0, 0)), rooms_behind(EVEN, (0, 1))]
[(0, 1, 2, 3, 4), (2, 4), (1, 3), (), (0, 1)]
>>> [stretches(FORK, LINE, (0,)), stretches(FORK, LINE, (2,)), stretches(FORK, LINE, (2, 2)), stretches(FORK, LINE, (0, 0)), stretches(EVEN, PAIR, (1,))]
[((1, 3),), ((3, 5),), ((4, 5),), ((0, 0),), ((0, 1), (0, 1))]
>>> [door_counts(FORK, LINE)[2], door_goals(FORK, LINE)[2], door_goals(FORK, LINE)[0], door_counts(EVEN, PAIR)[0]]
[(((0, 0, 1, 2, 3, 3),),), (((3, 4, 4),),), (((1, 2),),), (((0, 0), (0, 1)), ((0, 1), (0, 0)))]
>>> index = Index(FORK, LINE)
>>> [index((2,)), index.further(((3, 5),), 2), index.number((0,)), (0, 0) in index, (2, 2) in index, len(index)]
[((3, 5),), ((4, 5),), 2, False, True, 1]
>>> [first_missing(FORK, 2), first_missing(ALL, 3), first_missing(WEAVE, 1), first_missing(WEAVE, 2)]
[(0, 0), None, None, (0, 0)]
>>> stretches(EVEN, ((0, 1),), ())
raises InvalidLines
"""
NAMES = {"ALL": ALL, "EVEN": EVEN, "WEAVE": WEAVE, "FORK": FORK}
LINE, PAIR = ((0, 2, 4, 1, 3),), ((0,), (1,))
LENGTHS = {1: 8, 2: 5, 3: 4, 4: 3}
SMALL = KNOWN + tuple(random_machines(91, 120)) + tuple(turning_machines(92, 25))
LARGE = (chain(24, 4), chain(24, 1), ring(24), chain(24, 2, back=23), WIDE) + tuple(random_machines(93, 4, most_rooms=24))
DRAWN = SMALL + LARGE


def choices(machine):
    """Some choices of lines of a machine: with the fewest lines, in two sequences, with one line cut, with one each."""
    told = lines(machine)
    found = [told, told[::-1], tuple((room,) for room in range(machine.size))]
    longest = max(told, key=len)
    if len(longest) > 1:
        found.append((longest[1:],) + tuple(line for line in told if line != longest) + (longest[:1],))
    return found


def plain_behind(machine, word):
    """The rooms to which some word with the end leads: each room is led to by its first word."""
    rooms = {plain_room(machine, ahead + word) for ahead in first_words(machine)} - {None}
    return tuple(sorted(rooms))


def around(places):
    """The least stretch with some places."""
    return (min(places), max(places) + 1) if places else (0, 0)


def plain_stretches(choice, rooms):
    """The least stretches of some rooms on the lines."""
    return tuple(around([at for at, room in enumerate(line) if room in rooms]) for line in choice)


class RoomTests(Checks):

    def test_examples(self):
        self.examples(EXAMPLES, {**vars(module), **NAMES})

    def test_constants(self):
        self.assertEqual(module.MOST_MISSING, 8)

    def test_by_all_words(self):
        for machine in SMALL:
            self.assertEqual(rooms_behind(machine, ()), tuple(range(machine.size)))
            for word in all_words(machine.letters, LENGTHS[machine.letters]):
                self.assertEqual(rooms_behind(machine, word), plain_behind(machine, word))
        for machine in [machine for machine in SMALL if machine.size < 5]:
            # With three letters ahead of the end all of these rooms are reached.
            led = [(word, plain_room(machine, word)) for word in all_words(machine.letters, 5)]
            for end in all_words(machine.letters, 2):
                rooms = {room for word, room in led if len(word) >= len(end) and word[len(word) - len(end):] == end}
                self.assertEqual(set(rooms_behind(machine, end)), rooms - {None})

    def test_stretches(self):
        for machine in DRAWN:
            words = all_words(machine.letters, 3 if machine.size < 9 else 2)
            for choice in choices(machine):
                for word in words:
                    rooms = plain_behind(machine, word)
                    told = stretches(machine, choice, word)
                    self.assertEqual(told, plain_stretches(choice, rooms))
                    self.assertEqual(sum(stop - start for start, stop in told), len(rooms))

    def test_long_words(self):
        self.assertEqual(rooms_behind(EVEN, (0, 1) * 100), (0, 1))
        self.assertEqual(rooms_behind(chain(24, 2), (1,) * 23), (23,))
        self.assertEqual(rooms_behind(chain(24, 2), (1,) * 24), ())
        self.assertEqual(stretches(WEAVE, PAIR, (1, 0) * 100), ((0, 0), (0, 1)))
        index = Index(WEAVE, PAIR)
        self.assertEqual((index((0, 1) * 100), (0, 1) * 100 in index, (0, 1) * 100 + (0,) in index),
                         (((0, 1), (0, 0)), True, False))

    def test_rooms_become_fewer(self):
        for machine in SMALL:
            for word in all_words(machine.letters, LENGTHS[machine.letters] - 1):
                many = len(rooms_behind(machine, word))
                for letter in range(machine.letters):
                    self.assertLessEqual(len(rooms_behind(machine, word + (letter,))), many)

    def test_returned_machines(self):
        for at, machine in enumerate(SMALL[:60]):
            for told in (least(machine), shuffled(machine, at)):
                for word in all_words(told.letters, 3):
                    self.assertEqual(rooms_behind(told, word), plain_behind(told, word))

    def test_what_is_not_true(self):
        found = {stretches(FORK, LINE, word) for word in all_words(3, 5)}
        self.assertNotIn(((0, 2),), found)
        self.assertIn(((0, 5),), found)
        self.assertEqual((3 in rooms_behind(FORK, (0, 2)), 3 in rooms_behind(FORK, (0,))), (True, False))
        goals = door_goals(FORK, LINE)[2][0][0]
        self.assertLess(len(set(goals)), len(goals))


class TableTests(Checks):

    def test_tables(self):
        for machine in DRAWN:
            for choice in choices(machine):
                counts, goals = door_counts(machine, choice), door_goals(machine, choice)
                self.assertEqual((len(counts), len(goals)), (machine.letters, machine.letters))
                for letter, (at, line), (to, other) in product(range(machine.letters), enumerate(choice),
                                                              enumerate(choice)):
                    led = [machine.doors[room][letter] for room in line]
                    self.assertEqual(counts[letter][at][to],
                                     tuple(sum(goal in other for goal in led[:many]) for many in range(len(line) + 1)))
                    found = goals[letter][at][to]
                    self.assertEqual(found, tuple(other.index(goal) for goal in led if goal in other))
                    self.assertEqual(list(found), sorted(found))
                self.assertTrue(all(isinstance(row, tuple) and len(row) == len(choice) and isinstance(cell, tuple)
                                    for table in counts + goals for row in table for cell in row))

    def test_edges(self):
        self.assertEqual((door_counts(EMPTY_WORD, ((0,),)), door_goals(EMPTY_WORD, ((0,),))),
                         (((((0, 0),),),) * 2, (((((),),),) * 2)))
        self.assertEqual(door_counts(chain(24, 1), (tuple(range(24)),)), (((tuple(range(24)) + (23,),),),))
        self.assertEqual(door_goals(chain(24, 1), (tuple(range(24)),)), (((tuple(range(1, 24)),),),))


class IndexTests(Checks):

    def test_stretches_of_words(self):
        for machine in DRAWN:
            for choice in choices(machine):
                index = Index(machine, choice)
                self.assertEqual((index.source, index.lines, len(index)), (machine, choice, len(choice)))
                for word in all_words(machine.letters, 3 if machine.size < 9 else 2):
                    told = stretches(machine, choice, word)
                    self.assertEqual(index(word), told)
                    self.assertEqual(index.number(word), len(rooms_behind(machine, word)))
                    self.assertIs(word in index, rooms_behind(machine, word) != ())
                    for letter in range(machine.letters):
                        self.assertEqual(index.further(told, letter), index(word + (letter,)))

    def test_further_from_all_stretches(self):
        for machine in SMALL:
            if machine.size > 5:
                continue
            for choice in choices(machine):
                index = Index(machine, choice)
                parts = [[(start, stop) for start in range(len(line) + 1) for stop in range(start, len(line) + 1)]
                         for line in choice]
                for told in list(product(*parts))[::1 if machine.size < 4 else 17]:
                    rooms = [room for line, (start, stop) in zip(choice, told) for room in line[start:stop]]
                    for letter in range(machine.letters):
                        goals = {machine.doors[room][letter] for room in rooms}
                        self.assertEqual(index.further(told, letter), plain_stretches(choice, goals))

    def test_stretches_of_no_room(self):
        index = Index(FORK, LINE)
        for at in range(6):
            self.assertEqual([index.further(((at, at),), letter) for letter in range(3)], [((0, 0),)] * 3)
        self.assertEqual([index.further(((0, 5),), letter) for letter in range(3)], [((1, 3),), ((3, 4),), ((3, 5),)])
        self.assertEqual((index.further(((0, 1),), 1), index.further(((4, 5),), 0)), (((3, 4),), ((2, 3),)))
        both = Index(EVEN, ((1,), (0,)))
        self.assertEqual(both.further(((0, 1), (1, 1)), 0), ((0, 0), (0, 1)))
        self.assertEqual(both.further(((0, 0), (0, 0)), 1), ((0, 0), (0, 0)))

    def test_ends_of_beginnings(self):
        for machine in KNOWN:
            index = Index(machine, lines(machine))
            begun = [word for word in all_words(machine.letters, 6 if machine.letters < 3 else 5)
                     if plain_room(machine, word) is not None]
            for word in all_words(machine.letters, 2):
                self.assertIs(word in index, any(told[len(told) - len(word):] == word for told in begun
                                                 if len(told) >= len(word)))
        every = Index(ALL, ((0,),))
        self.assertEqual(((0,) * 200 in every, (0,) * 201 in every), (True, False))
        for value in NO_WORDS_OF_2 + (every,):
            self.assertIs(value in every, False)
            self.assertIs(value not in every, True)

    def test_equal(self):
        index = Index(FORK, LINE)
        self.assertEqual((index == Index(FORK, LINE), index != Index(FORK, LINE)), (True, False))
        same = Index(Machine(FORK.letters, FORK.doors, FORK.good), ((0, 2, 4, 1, 3),))
        self.assertIs(index == same, True)
        others = (None, True, 1, "", (), LINE, FORK, (FORK, LINE), [], {}, Index(FORK, ((0, 2), (4, 1, 3))),
                  Index(Machine(3, FORK.doors, (1, 3, 4)), LINE), Index(ALL, ((0,),)))
        for value in others:
            self.assertEqual((index == value, index != value), (False, True))
        self.assertIs(Index(EVEN, PAIR) == Index(EVEN, PAIR[::-1]), False)
        self.assertFalse(Index(EVEN, PAIR) == Index(least(WEAVE), PAIR))

    def test_never_changes(self):
        index = Index(FORK, LINE)
        for name in ("source", "lines"):
            self.fails(AttributeError, setattr, index, name, 1)
        self.fails(TypeError, lambda: list(index))
        self.fails(TypeError, lambda: index + index)
        index((0, 2))
        self.assertIs(index == Index(FORK, LINE), True)

    def test_wrong_arguments(self):
        for value in NO_MACHINES:
            self.fails(InvalidMachine, Index, value, LINE)
            self.fails(InvalidMachine, Index, value, None)
        for value in NO_LINES:
            self.fails(InvalidLines, Index, FORK, value)
        index = Index(EVEN, PAIR)
        for value in NO_WORDS_OF_2:
            self.fails(InvalidWord, index, value)
            self.fails(InvalidWord, index.number, value)
        for given in NO_NUMBERS + (2, LONG):
            self.fails_with(InvalidNumber, given, index.further, ((0, 1), (0, 0)), given)

    def test_wrong_stretches(self):
        index = Index(FORK, ((0, 2), (4, 1, 3)))
        wrong = NO_TUPLES + ((), ((0, 2),), ((0, 2), (0, 3), (0, 0)), ((0, 3), (0, 3)), ((0, 2), (0, 4)), ((-1, 2), (0, 3)),
                             ((2, 1), (0, 3)), ((0, 2), (3, 2)), ((3, 3), (0, 0)), ((0, True), (0, 3)),
                             ((False, 1), (0, 3)), ((0, 2), None), ((0, None), (0, 3)), ((0, "2"), (0, 3)), ([0, 2], (0, 3)),
                             [(0, 2), (0, 3)], ((0, 2), "03"), ((0, 2), (0,)), ((0, 2, 2), (0, 3)), (0, 2), ((0, 2), 3),
                             ((0, 2), (0, 10 ** 60)), ((0, (1,)), (0, 3)), ((0, 2), {0: 3}), ((0, FORK), (0, 3)), ((), ()))
        for value in wrong:
            self.fails(InvalidOperation, index.further, value, 0)
            self.fails(InvalidOperation, index.further, value, None)
        self.assertEqual(index.further(((2, 2), (3, 3)), 0), ((0, 0), (0, 0)))
        self.assertEqual(index.further(((0, 2), (0, 3)), 2), ((0, 0), (1, 3)))

    def test_400_rooms(self):
        wide = machine_of(1, tuple(((room + 1) % 400,) for room in range(400)), (0,))
        index = Index(wide, lines(wide))
        self.assertEqual((len(index), index.number((0,) * 200)), (400, 400))
        self.assertEqual(index.further(((0, 1),) + ((0, 0),) * 399, 0).count((0, 1)), 1)


class MissingTests(Checks):

    def test_by_all_words(self):
        for machine in DRAWN:
            longest = LENGTHS[machine.letters] if machine.size < 9 else 3
            missing = [word for word in all_words(machine.letters, longest) if plain_behind(machine, word) == ()]
            for length in range(longest + 1):
                fits = missing and len(missing[0]) <= length
                self.assertEqual(first_missing(machine, length), missing[0] if fits else None)

    def test_edges(self):
        self.assertEqual([first_missing(machine, 0) for machine in (ALL, WEAVE, EMPTY_WORD)], [None] * 3)
        self.assertEqual((first_missing(EMPTY_WORD, 1), first_missing(FEW, 8)), ((0,), (0, 0)))
        self.assertEqual((first_missing(chain(8, 4), 8), first_missing(chain(8, 4), 7)), ((0,) * 8, None))
        self.assertEqual((first_missing(chain(9, 1), 8), first_missing(ring(24, 4), 8)), (None, None))
        self.assertEqual(first_missing(HOOK, 8), None)

    def test_wrong_arguments(self):
        for value in NO_MACHINES:
            self.fails(InvalidMachine, first_missing, value, 9)
            self.fails(InvalidMachine, rooms_behind, value, None)
            self.fails(InvalidMachine, stretches, value, None, None)
            self.fails(InvalidMachine, stretches, value, LINE, (0,))
            self.fails(InvalidMachine, door_counts, value, None)
            self.fails(InvalidMachine, door_goals, value, None)
        for given in NO_NUMBERS + (9, LONG):
            self.fails_with(InvalidNumber, given, first_missing, FORK, given)
        for value in NO_LINES + (Reader.of_machine(FORK),):
            self.fails(InvalidLines, stretches, FORK, value, None)
            self.fails(InvalidLines, door_counts, FORK, value)
            self.fails(InvalidLines, door_goals, FORK, value)
        for value in NO_WORDS_OF_2:
            self.fails(InvalidWord, rooms_behind, EVEN, value)
            self.fails(InvalidWord, stretches, EVEN, PAIR, value)
        self.assertEqual(line_number(EVEN), len(PAIR))
