"""How many last letters take rooms apart into few lines: [13.2], [13.3] and [14.3], without an unfolded machine."""

from roomlines.errors import TooMany
from roomlines.mach.least import least
from roomlines.mach.machines import Machine
from roomlines.order.lines import line_number
from roomlines.ring.entangled import entangled_number, entangled_rooms, entangled_tuples, first_entangled
from roomlines.unfold.mixing import least_lines, letters_to, letters_to_one_line, room_sets
from roomlines.unfold.unfolded import each_unfolded, unfolded
from tests.checks import Checks
from tests.support import (ALL, EMPTY_WORD, EVEN, FORK, KNOWN, THIRDS, WEAVE, chain, random_machines, ring,
                           turning_machines)
from tests.test_fewest import BY_FOLD, WANTS_9, WANTS_ROOMS
from tests.test_unfolded import TWICE

DRAWN = (tuple(machine for machine in KNOWN if machine.size < 7) + (TWICE,) + tuple(BY_FOLD.values())
         + tuple(random_machines(161, 120)) + tuple(turning_machines(162, 30, most_rooms=6))
         + tuple(random_machines(163, 60, most_rooms=4, most_letters=2)))


class MixingTests(Checks):

    def test_lines_of_unfolded_machines(self):
        kinds = set()
        for machine in DRAWN:
            sets = room_sets(machine)
            told = [line_number(made) for made in each_unfolded(machine) if made.size < 200]
            self.assertEqual(told, sorted(told, reverse=True))
            for number in range(1, machine.size + 2):
                many = letters_to(sets, number)
                right = [at for at, found in enumerate(told) if found <= number]
                if right:
                    self.assertEqual(many, right[0])
                else:
                    self.assertTrue(many is None or many >= len(told))
                self.assertEqual(many is None, number < entangled_number(machine))
                kinds.add(many)
        self.assertLessEqual({None, 0, 1, 2, 3, 4}, kinds)

    def test_least_lines(self):
        for machine in DRAWN + (WANTS_9,) + WANTS_ROOMS:
            number, many = least_lines(machine)
            self.assertEqual(number, entangled_number(machine))
            self.assertEqual(letters_to_one_line(machine), many if number == 1 else None)
            self.assertEqual(letters_to(room_sets(machine), number), many)
            self.assertLessEqual(least_lines(least(machine))[0], number)
        for (many, number), machine in BY_FOLD.items():
            self.assertEqual(least_lines(least(machine)), (number, many))

    def test_edges(self):
        for machine, right in ((ALL, (1, 0)), (EMPTY_WORD, (1, 0)), (EVEN, (2, 0)), (WEAVE, (1, 1)), (FORK, (1, 0)),
                               (THIRDS, (3, 0)), (TWICE, (1, 2)), (ring(6), (6, 0)), (chain(6, 4), (1, 4)),
                               (WANTS_9, (1, 9))):
            self.assertEqual(least_lines(machine), right)
        # A wrong number of letters leaves more lines.
        self.assertEqual([line_number(unfolded(TWICE, many)) for many in (1, 2)], [2, 1])
        self.assertEqual([least_lines(machine)[0] for machine in WANTS_ROOMS], [1, 2])
        for machine in WANTS_ROOMS:
            self.fails_with(TooMany, 400, unfolded, machine, min(8, least_lines(machine)[1]))

    def test_first_entangled_rooms(self):
        for machine in DRAWN:
            told = list(entangled_tuples(machine))
            for many in range(2, machine.size + 1):
                right = [rooms for rooms in told if len(rooms) == many]
                self.assertEqual(first_entangled(machine, many), right[0] if right else ())
            self.assertEqual(entangled_rooms(machine), first_entangled(machine, len(told[-1])) if told else ())

    def test_rooms_with_a_single_word(self):
        # The room 2 has just the word 1: behind all words to the room 1, or between two of them.
        behind = Machine(2, ((1, 2), (1, None), (None, None)), (1, 2))
        self.assertEqual((line_number(behind), least_lines(behind)), (1, (1, 0)))
        inside = Machine(3, ((1, 2, 1), (None,) * 3, (None,) * 3), (1, 2))
        self.assertEqual((line_number(inside), least_lines(inside)), (2, (1, 1)))
        # Words to the room 1 lie on both sides of the word 1 1 to the room 3; those that end in 1 1 are all behind.
        longer = Machine(2, ((1, 2), (None, 1), (1, 3), (None, None)), (1, 3))
        self.assertEqual([line_number(unfolded(longer, many)) for many in range(4)], [2, 2, 1, 1])
        self.assertEqual(least_lines(longer), (1, 2))
