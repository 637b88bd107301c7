"""Calls that must not take long: their answers, and the rows of code that are run for them."""

import sys
from itertools import combinations

from roomlines.mach.machines import Machine
from roomlines.ring.entangled import entangled_number, entangled_paper, entangled_rooms, entangled_tuples
from tests.checks import Checks

MIXING = Machine(2, ((4, 1), (2, 2), (1, 4), (3, 5), (5, 3), (0, 0)), (1, 3, 4, 5))
FIVE = Machine(2, ((0, 3), (2, 4), (1, 0), (3, 1), (4, 2)), (0, 1, 2))
TURNING = Machine(1, ((1,), (2,), (3,), (4,), (5,), (0,)), (0,))
EVERY = [rooms for many in range(2, 7) for rooms in combinations(range(6), many)]
PAPER = ("ring", (1, 1, 1, 1, 1, 1), "below", ((), (1, 0, 0), (1, 0), (0, 1, 0), (0,)))


def rows_run(call):
    """How many rows of code a call runs."""
    found = [0]
    before = sys.gettrace()

    def count(_, event, __):
        found[0] += event == "line"
        return count

    sys.settrace(count)
    try:
        call()
    finally:
        sys.settrace(before)
    return found[0]


class QuickTests(Checks):

    def test_answers(self):
        self.assertEqual(list(entangled_tuples(MIXING)), EVERY)
        self.assertEqual((entangled_number(FIVE), entangled_rooms(FIVE)), (5, (0, 1, 2, 3, 4)))
        self.assertEqual(entangled_paper(MIXING, (0, 1, 2, 3, 4)), PAPER)
        self.assertEqual(list(entangled_tuples(TURNING)), EVERY)

    def test_rows_of_code(self):
        # A search for each tuple of rooms by itself took three times as many rows of code.
        for most, call in ((1240000, lambda: list(entangled_tuples(MIXING))), (137000, lambda: entangled_number(FIVE)),
                           (152000, lambda: entangled_paper(MIXING, (0, 1, 2, 3, 4))),
                           (52000, lambda: list(entangled_tuples(TURNING)))):
            self.assertLess(rows_run(call), most)
