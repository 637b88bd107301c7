"""Calls that must not take long: their answers, and the rows of code that are run for them."""

import sys
from itertools import combinations

from roomlines.mach.machines import Machine
from roomlines.ring.entangled import entangled_number, entangled_paper, entangled_rooms, entangled_tuples
from roomlines.unfold.fewest import fewest_lines, fewest_machine, fewest_paper, is_fewest_machine, is_fewest_paper
from roomlines.unfold.single import is_single_machine, single_machine, single_number
from tests.checks import Checks

MIXING = Machine(2, ((4, 1), (2, 2), (1, 4), (3, 5), (5, 3), (0, 0)), (1, 3, 4, 5))
FIVE = Machine(2, ((0, 3), (2, 4), (1, 0), (3, 1), (4, 2)), (0, 1, 2))
TURNING = Machine(1, ((1,), (2,), (3,), (4,), (5,), (0,)), (0,))
EVERY = [rooms for many in range(2, 7) for rooms in combinations(range(6), many)]
PAPER = ("ring", (1, 1, 1, 1, 1, 1), "below", ((), (1, 0, 0), (1, 0), (0, 1, 0), (0,)))
WIDE = Machine(2, ((1, None), (2, 2), (3, 0), (None, 3)), (0, 1, 2, 3))
THIRD = Machine(3, ((1, None, None), (2, None, 1), (None, 3, None), (None, 3, 0)), (0, 1))
SHORT = Machine(2, ((1, 1), (2, 2), (3, 3), (None, None)), (0, 2, 3))
TURNED = Machine(2, ((1, 0), (2, 1), (3, 2), (0, 3)), (0,))


def rows_run(call):
    """How many rows of code a call runs."""
    found = [0]
    before = sys.gettrace()

    def count(_, event, __):
        found[0] += event == "line"
        return count

    sys.settrace(count)
    try:
        call()
    finally:
        sys.settrace(before)
    return found[0]


class QuickTests(Checks):

    def test_answers(self):
        self.assertEqual(list(entangled_tuples(MIXING)), EVERY)
        self.assertEqual((entangled_number(FIVE), entangled_rooms(FIVE)), (5, (0, 1, 2, 3, 4)))
        self.assertEqual(entangled_paper(MIXING, (0, 1, 2, 3, 4)), PAPER)
        self.assertEqual(list(entangled_tuples(TURNING)), EVERY)

    def test_rows_of_code(self):
        # A search for each tuple of rooms by itself took three times as many rows of code.
        for most, call in ((1240000, lambda: list(entangled_tuples(MIXING))), (137000, lambda: entangled_number(FIVE)),
                           (152000, lambda: entangled_paper(MIXING, (0, 1, 2, 3, 4))),
                           (52000, lambda: list(entangled_tuples(TURNING)))):
            self.assertLess(rows_run(call), most)


class SingleTests(Checks):

    def rows_are_few(self, machine, bounds):
        """Each call runs less rows of code than it is allowed."""
        value = None if machine == TURNED else single_machine(machine)
        found, paper = fewest_machine(machine), fewest_paper(machine)
        calls = (lambda: single_number(machine), lambda: is_single_machine(machine, value),
                 lambda: is_single_machine(machine, machine), lambda: is_single_machine(machine, None),
                 lambda: fewest_machine(machine), lambda: is_fewest_machine(machine, found),
                 lambda: is_fewest_machine(machine, machine), lambda: is_fewest_machine(machine, None),
                 lambda: is_fewest_paper(machine, paper), lambda: is_fewest_paper(machine, None),
                 lambda: is_fewest_paper(machine, (machine,) + paper[1:]))
        for most, call in zip(bounds, calls, strict=True):
            self.assertLess(rows_run(call), most)

    def test_answers(self):
        for machine, size, lots in ((WIDE, 46, 23), (THIRD, 17, 9), (SHORT, 11, 11)):
            value, found = single_machine(machine), fewest_machine(machine)
            self.assertEqual((found.size, value.size, single_number(machine)), (size, lots, lots))
            self.assertIs(is_single_machine(machine, value), True)
            for other in (machine, None):
                self.assertIs(is_single_machine(machine, other), False)
            self.assertIs(is_single_machine(machine, found), size == lots)
            paper = fewest_paper(machine)
            for told, right in ((found, True), (value, True), (machine, False), (None, False), (TURNED, False)):
                self.assertIs(is_fewest_machine(machine, told), right)
                self.assertIs(is_fewest_paper(machine, (told,) + paper[1:]), told == found)
            self.assertIs(is_fewest_paper(machine, None), False)
        self.assertEqual((fewest_lines(TURNED), single_number(TURNED), fewest_machine(TURNED)), (4, None, TURNED))
        for value in (TURNED, WIDE, None):
            self.assertIs(is_single_machine(TURNED, value), False)
            self.assertIs(is_fewest_machine(TURNED, value), value == TURNED)

    def test_rows_of_code(self):
        # About half of what the calls took when machines were unfolded by one letter more again and again.
        for machine, bounds in ((WIDE, (19900, 22600, 20500, 19900, 13600, 6400, 1780, 1040, 4560, 260, 870)),
                                (THIRD, (7570, 8860, 8180, 7570, 3930, 3020, 1770, 990, 2160, 300, 940)),
                                (SHORT, (5380, 6540, 5940, 5380, 2460, 2160, 1770, 1000, 1370, 280, 870)),
                                (TURNED, (1430, 1430, 1430, 1430, 1750, 2210, 2210, 1430, 1350, 280, 1350))):
            self.rows_are_few(machine, bounds)
