"""[5.1] to [5.7]: heights of rooms."""

from roomlines.base.endless import Endless, compare
from roomlines.errors import InvalidMachine, InvalidNumber, InvalidWord, UnknownName
from roomlines.mach import heights as module
from roomlines.mach.heights import (all_heights, does_span, high_height, is_met, last_doors, low_height, word_near)
from roomlines.mach.least import least
from roomlines.mach.machines import Machine, machine_of, numbered
from tests.checks import Checks
from tests.support import (ALL, EMPTY_WORD, EVEN, FEW, FORK, HOOK, KNOWN, LONG, NO_NUMBERS, WEAVE, all_words, chain,
                           doubled, plain_order, plain_room, plain_words, random_machines, ring, spread,
                           turning_machines)
from tests.test_machines import NO_MACHINES
from tests.test_words import NO_WORDS_OF_2

EXAMPLES = """
>>> [low_height(EVEN, 1), high_height(EVEN, 1) == Endless(2, (1,)), all_heights(WEAVE) == (((), Endless(2, (0, 1))), ((0,), Endless(2, (1, 0))))]
[(0,), True, True]
>>> [low_height(FORK, 1), high_height(FORK, 1) == Endless(3, (0, 2)), low_height(FORK, 3) == Endless(3, (0, 2)), high_height(FORK, 3) == Endless(3, (0, 2), tail=(2,))]
[(1,), True, True, True]
>>> [last_doors(FORK), last_doors(FORK, side="high")]
[(None, (1, 0), (0, 1), (2, 4), (0, 3)), (None, (2, 2), (0, 1), (2, 1), (0, 3))]
>>> [word_near(FORK, 3, 3), word_near(FORK, 1, 1, side="high"), word_near(FORK, 1, 5), is_met(FORK, 3), is_met(FORK, 0, side="high")]
[(1, 2, 0, 2), (1, 0, 2), (1,), False, True]
>>> [does_span(EVEN, 1, (0, 0)), EVEN.leads(0, (0, 0)), does_span(EVEN, 1, ()), does_span(FORK, 1, (2, 0, 2))]
[True, 0, False, True]
>>> is_met(EVEN, 1, side="left")
raises UnknownName('left')
"""
NAMES = {"ALL": ALL, "EVEN": EVEN, "WEAVE": WEAVE, "FORK": FORK, "Endless": Endless}
NO_SIDES = ("left", "", "Low", "lo", "low ", True, None, 0, 1, (), ("low",), ["low"], {"low": 1}, ALL, "before")
LENGTHS = {1: 12, 2: 9, 3: 6, 4: 5}
DRAWN = KNOWN + tuple(random_machines(51, 120, most_rooms=5)) + tuple(turning_machines(52, 40, most_rooms=4))


def set_behind(height, letter):
    """The height with a letter behind it."""
    return height + (letter,)


class HeightTests(Checks):

    def test_examples(self):
        self.examples(EXAMPLES, {**vars(module), **NAMES})

    def test_constants(self):
        self.assertEqual((module.SIDES, module.MOST_NEAR), (("low", "high"), 100))

    def test_all_words_lie_between_the_heights(self):
        for machine in DRAWN:
            for room, (low, high) in enumerate(all_heights(machine)):
                self.assertTrue(low_height(machine, room) == low and high_height(machine, room) == high)
                for word in plain_words(machine, room, LENGTHS[machine.letters]):
                    self.assertLessEqual(plain_order(low, word), 0)
                    self.assertLessEqual(plain_order(word, high), 0)

    def test_words_come_near_the_heights(self):
        for machine in DRAWN:
            letters = machine.letters
            for room, sides in enumerate(all_heights(machine)):
                for height in sides:
                    if isinstance(height, tuple):
                        self.assertEqual(plain_room(machine, height), room)
                        self.assertLess(len(height), machine.size)
                        continue
                    self.assertEqual(height.letters, letters)
                    self.assertLessEqual(len(height), machine.size)
                    for many in (0, 1, 2, 3, 10, 40, 150):
                        end = height.end(many)
                        self.assertIn(room, [plain_room(machine, end, begin) for begin in range(machine.size)])

    def test_heights_by_doors(self):
        for machine in DRAWN:
            told = all_heights(machine)
            for at, side in enumerate(module.SIDES):
                for room in range(machine.size):
                    ways = [(set_behind(told[other][at], letter), letter, other)
                            for letter, other in machine.ways_in(room)]
                    if side == "low" and room == 0 or not ways:
                        self.assertEqual((room, told[room][at], last_doors(machine, side=side)[room]), (0, (), None))
                        continue
                    sign = 1 if side == "high" else -1
                    best = [way for way in ways if all(sign * plain_order(way[0], way2[0]) >= 0 for way2 in ways)]
                    self.assertEqual(compare(machine.letters, best[0][0], told[room][at]), 0)
                    other = min(way[2] for way in best)
                    self.assertEqual({way[1] for way in best}, {best[0][1]})
                    self.assertEqual(last_doors(machine, side=side)[room], (best[0][1], other))

    def test_low_is_the_default(self):
        for machine in DRAWN:
            self.assertEqual(last_doors(machine), last_doors(machine, side="low"))
            for room in range(machine.size):
                self.assertIs(is_met(machine, room), isinstance(low_height(machine, room), tuple))
                self.assertIs(is_met(machine, room, side="high"), isinstance(high_height(machine, room), tuple))
                self.assertEqual(word_near(machine, room, 4), word_near(machine, room, 4, side="low"))

    def test_equal_heights_of_one_room(self):
        many = 0
        for machine in DRAWN:
            for room, (low, high) in enumerate(all_heights(machine)):
                if compare(machine.letters, low, high) == 0:
                    many += 1
                    self.assertIsInstance(low, tuple)
                    longest = 4 if machine.letters == 4 else 6
                    told = plain_words(machine, room, longest)
                    self.assertEqual(told, (low,) if len(low) <= longest else ())
        self.assertGreater(many, 30)

    def test_room_0(self):
        self.assertEqual(all_heights(EMPTY_WORD), (((), ()),))
        self.assertEqual(all_heights(FEW)[0], ((), ()))
        self.assertEqual(last_doors(EMPTY_WORD, side="high"), (None,))
        for letters in (1, 2, 3, 4):
            low, high = all_heights(ring(1, letters))[0]
            self.assertTrue(low == () and high == Endless(letters, (letters - 1,)))
            self.assertEqual(last_doors(ring(1, letters), side="high"), ((letters - 1, 0),))
            self.assertEqual(last_doors(ring(1, letters)), (None,))
        for machine in DRAWN:
            self.assertEqual((low_height(machine, 0), is_met(machine, 0)), ((), True))
            entered = any(0 in row for row in machine.doors)
            self.assertIs(is_met(machine, 0, side="high") and high_height(machine, 0) == (),
                          not entered)

    def test_met_and_not_met(self):
        self.assertEqual([is_met(FORK, room) for room in range(5)], [True, True, True, False, False])
        self.assertEqual([is_met(FORK, room, side="high") for room in range(5)], [True, False, False, False, False])
        for room in range(24):
            self.assertEqual(all_heights(chain(24, 4))[room], ((0,) * room, (3,) * room))
            low, high = all_heights(ring(24))[room]
            self.assertEqual(low, (0,) * room)
            self.assertTrue(high == Endless(1, (0,)))
        back = chain(24, 2, back=23)
        self.assertEqual(all_heights(back)[22], ((0,) * 22, (1,) * 22))
        self.assertEqual(low_height(back, 23), (0,) * 23)
        self.assertTrue(high_height(back, 23) == Endless(2, (1,)))

    def test_rings_and_tails_of_all_rooms(self):
        doors = ((1, None), (2, None), (3, None), (4, 1), (None, None))
        told = Machine(2, doors, (4,))
        self.assertTrue(high_height(told, 4) == Endless(2, (0, 0, 1), tail=(0, 0, 0)))
        self.assertEqual((len(high_height(told, 4)), low_height(told, 4)), (4, (0, 0, 0, 0)))
        least_first = Machine(2, ((None, 1), (None, 2), (1, 3), (None, None)), (3,))
        self.assertTrue(low_height(least_first, 3) == Endless(2, (1, 0), tail=(1, 1)))
        self.assertFalse(is_met(least_first, 3))

    def test_400_rooms(self):
        wide = machine_of(2, tuple(((room + 1) % 400, 1 if room == 0 else None) for room in range(400)), (0,))
        self.assertEqual(low_height(wide, 399), (0,) * 399)
        high = high_height(wide, 399)
        self.assertEqual((high.ring, high.tail), ((0, 1) + (0,) * 398, ()))
        self.assertEqual(high.end(1000), (high.ring * 3)[-1000:])

    def test_returned_machines(self):
        for at, machine in enumerate(DRAWN[:60]):
            for told in (least(machine), numbered(machine), doubled(machine, at % machine.size)):
                for room, (low, high) in enumerate(all_heights(told)):
                    for word in plain_words(told, room, 4):
                        self.assertIs(does_span(told, room, word), True)
                        self.assertTrue(plain_order(low, word) <= 0 <= plain_order(high, word))

    def test_what_is_not_true(self):
        self.assertTrue(high_height(EVEN, 0) == high_height(EVEN, 1))
        self.assertTrue(low_height(FORK, 3) == Endless(3, (0, 2)))
        self.assertEqual((does_span(EVEN, 1, (0, 0)), EVEN.leads(0, (0, 0))), (True, 0))
        self.assertEqual([EVEN.leads(0, word) for word in ((0,), (1, 0))], [1, 1])


class NearTests(Checks):

    def test_first_word_near(self):
        for machine in DRAWN:
            longest = LENGTHS[machine.letters]
            words = all_words(machine.letters, longest)
            for room, sides in enumerate(all_heights(machine)):
                leading = [word for word in words if plain_room(machine, word) == room]
                for side, height in zip(module.SIDES, sides):
                    for many in (0, 1, 2, 3, 5):
                        near = [word for word in leading
                                if word == height or len(word) >= many and spread(word, many) == spread(height, many)]
                        told = word_near(machine, room, many, side=side)
                        self.assertEqual(plain_room(machine, told), room)
                        self.assertEqual(told if len(told) <= longest else None, near[0] if near else None)
                        self.assertLess(len(told), many + machine.size)

    def test_edges(self):
        self.assertEqual(word_near(ALL, 0, 0, side="high"), ())
        self.assertEqual(word_near(ALL, 0, 100, side="high"), (1,) * 100)
        self.assertEqual(word_near(ALL, 0, 100), ())
        self.assertEqual(word_near(chain(24, 4), 23, 0, side="high"), (0,) * 23)
        self.assertEqual(word_near(chain(24, 4), 23, 5, side="high"), (0,) * 18 + (3,) * 5)
        self.assertEqual(word_near(chain(24, 4), 23, 23, side="high"), (3,) * 23)
        self.assertEqual(word_near(chain(24, 4), 23, 24, side="high"), (3,) * 23)
        self.assertEqual(len(word_near(ring(24), 1, 100, side="high")), 121)
        for machine in DRAWN:
            for room, sides in enumerate(all_heights(machine)):
                for side, height in zip(module.SIDES, sides):
                    told = word_near(machine, room, 100, side=side)
                    self.assertEqual(plain_room(machine, told), room)
                    self.assertTrue(told == height or spread(told, 100) == spread(height, 100))

    def test_span(self):
        for machine in DRAWN:
            for room, (low, high) in enumerate(all_heights(machine)):
                for word in all_words(machine.letters, 4):
                    inside = plain_order(low, word) <= 0 and plain_order(word, high) <= 0
                    self.assertIs(does_span(machine, room, word), inside)
        self.assertIs(does_span(ALL, 0, (1,) * 200), True)
        self.assertIs(does_span(HOOK, 0, (0,)), False)


class WrongTests(Checks):

    def test_wrong_machines(self):
        for value in NO_MACHINES:
            self.fails(InvalidMachine, low_height, value, None)
            self.fails(InvalidMachine, high_height, value, None)
            self.fails(InvalidMachine, all_heights, value)
            self.fails(InvalidMachine, is_met, value, None, side=None)
            self.fails(InvalidMachine, last_doors, value, side=None)
            self.fails(InvalidMachine, word_near, value, None, None, side=None)
            self.fails(InvalidMachine, does_span, value, None, None)

    def test_wrong_rooms(self):
        for given in NO_NUMBERS + (2, LONG):
            self.fails_with(InvalidNumber, given, low_height, EVEN, given)
            self.fails_with(InvalidNumber, given, high_height, EVEN, given)
            self.fails_with(InvalidNumber, given, is_met, EVEN, given, side=None)
            self.fails_with(InvalidNumber, given, word_near, EVEN, given, 101, side=None)
            self.fails_with(InvalidNumber, given, does_span, EVEN, given, None)

    def test_wrong_numbers_and_words(self):
        for given in NO_NUMBERS + (101, LONG):
            self.fails_with(InvalidNumber, given, word_near, EVEN, 1, given)
            self.fails_with(InvalidNumber, given, word_near, EVEN, 1, given, side="left")
        for value in NO_WORDS_OF_2:
            self.fails(InvalidWord, does_span, EVEN, 1, value)

    def test_wrong_sides(self):
        for given in NO_SIDES:
            self.fails_with(UnknownName, given, is_met, EVEN, 1, side=given)
            self.fails_with(UnknownName, given, last_doors, EVEN, side=given)
            self.fails_with(UnknownName, given, word_near, EVEN, 1, 100, side=given)
        self.fails(TypeError, lambda: is_met(EVEN, 1, "low"))
        self.fails(TypeError, lambda: last_doors(EVEN, "low"))
        self.fails(TypeError, lambda: word_near(EVEN, 1, 1, "low"))
