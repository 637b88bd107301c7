"""[17.1] to [17.5]: words that turn rooms, and orders of the letters."""

from itertools import permutations, product

from roomlines.base.endless import Endless
from roomlines.deeds import turns as module
from roomlines.deeds.turns import (best_order, each_turned, has_turns, order_lines, rounds_of, turned_rooms,
                                   undone_order, with_order)
from roomlines.errors import InvalidMachine, InvalidNumber, InvalidOrder, InvalidWord, TooMany
from roomlines.mach.least import least
from roomlines.mach.machines import Machine, machine_of
from roomlines.order.lines import line_number
from roomlines.ring.entangled import are_entangled, entangled_number
from roomlines.ring.tuples import does_go_round, is_ring
from roomlines.unfold.fewest import fewest_lines
from roomlines.unfold.unfolded import unfolded
from tests.checks import Checks, first_of
from tests.support import (ALL, EMPTY_WORD, EVEN, FORK, KNOWN, LONG, NO_NUMBERS, NO_TUPLES, THIRDS, WEAVE, all_words,
                           chain, doubled, lots_of, plain_room, random_machines, ring, shuffled, turning_machines)
from tests.test_lines import NO_MACHINES
from tests.test_words import NO_LETTERS, NO_WORDS_OF_2

EXAMPLES = """
>>> MOST, THREE = Machine(2, ((1, 0), (None, 1)), (0, 1)), Machine(1, ((1,), (2,), (0,)), (0,))
>>> [rounds_of(EVEN, (0,)), rounds_of(EVEN, (0, 0)), rounds_of(THREE, (0, 0)), turned_rooms(EVEN, 2), turned_rooms(EVEN, 3), list(each_turned(THREE))]
[((0, 1),), (), ((0, 2, 1),), ((0, 1), (0,)), None, [((0, 1, 2), (0,))]]
>>> [has_turns(WEAVE), has_turns(MOST), has_turns(EVEN), order_lines(MOST), best_order(MOST), best_order(EVEN)]
[False, False, True, {(0, 1): 2, (1, 0): 1}, (1, 0), (0, 1)]
>>> [with_order(MOST, (1, 0)).doors, with_order(WEAVE, (1, 0))((1, 0)), undone_order(3, (1, 2, 0)), order_lines(THREE)]
[((0, 1), (1, None)), True, (2, 0, 1), {(0,): 3}]
>>> with_order(ALL, (0, 0))
raises InvalidOrder
"""
NAMES = {"ALL": ALL, "EVEN": EVEN, "WEAVE": WEAVE, "FORK": FORK, "Machine": Machine}
MOST = Machine(2, ((1, 0), (None, 1)), (0, 1))
SIX = Machine(2, ((1, 1), (2, 0), (3, 2), (4, 3), (5, 4), (0, 5)), (0,))
SMALL = tuple(machine for machine in KNOWN if machine.size < 7)
TURNING = tuple(turning_machines(171, 25, most_rooms=5)) + (ring(5), ring(6, good=(0, 3)), ring(4, 2))
DRAWN = (SMALL + (MOST,) + TURNING + tuple(random_machines(172, 60))
         + tuple(random_machines(173, 50, most_rooms=4, most_letters=2)))
LENGTHS = {1: 8, 2: 5, 3: 3, 4: 3}
# What is no order of three letters.
NO_ORDERS = NO_TUPLES + ((), (0,), (0, 1), (0, 1, 1), (0, 1, 2, 0), (0, 1, 2, 3), (1, 2, 3), (0, 0, 0), (-1, 0, 1),
                         (0, True, 2), (False, 1, 2), (0, 1, None), (0, 1, "2"), ("0", "1", "2"), "012", [0, 1, 2],
                         ((0, 1, 2),), ([0], 1, 2), (0, 1, 10 ** 60), {0: 1, 1: 2, 2: 0}, (0, 1, FORK), (0, {}, 2))


def plain_rounds(goals):
    """The ascending tuple of the rounds of rooms that are led to other ones, by the tuple of the goals."""
    found = []
    for room in range(len(goals)):
        told, at = [room], goals[room]
        while at is not None and at not in told:
            told.append(at)
            at = goals[at]
        if at == room and len(told) > 1 and min(told) == room:
            found.append(tuple(told))
    return tuple(found)


def plain_turns(machine):
    """The dict from each round that some word turns to the first such word, shorter ones first."""
    start = tuple(range(machine.size))
    words, queue, turned = {start: ()}, [start], {}
    for goals in queue:
        for told in plain_rounds(goals):
            turned.setdefault(told, words[goals])
        for letter in range(machine.letters):
            led = tuple(None if room is None else machine.doors[room][letter] for room in goals)
            if led not in words:
                words[led] = words[goals] + (letter,)
                queue.append(led)
    return turned


def ordered_word(order, word):
    """The word for which a word of the machine with an order stands."""
    return tuple(order[letter] for letter in word)


class TurnTests(Checks):

    def test_examples(self):
        self.examples(EXAMPLES, {**vars(module), **NAMES})

    def test_constants(self):
        self.assertEqual(module.MOST_TURNED, 6)

    def test_rounds(self):
        found = 0
        for machine in DRAWN + (chain(24, 2, back=0), ring(24, 3), unfolded(EVEN, 4)):
            for word in all_words(machine.letters, LENGTHS[machine.letters]):
                goals = tuple(plain_room(machine, word, room) for room in range(machine.size))
                told = rounds_of(machine, word)
                self.assertEqual(told, plain_rounds(goals))
                self.assertEqual(len({room for rooms in told for room in rooms}), sum(map(len, told)))
                found += len(told) > 1
            self.assertEqual(rounds_of(machine, ()), ())
        self.assertGreater(found, 20)
        self.assertEqual(rounds_of(ring(24), (0,) * 200), tuple(tuple((room + 8 * at) % 24 for at in range(3))
                                                                for room in range(8)))
        self.assertEqual(rounds_of(ring(24), (0,) * 192), ())
        self.assertEqual(rounds_of(ring(6), (0, 0)), ((0, 2, 4), (1, 3, 5)))
        self.assertEqual(rounds_of(ring(6), (0,) * 4), ((0, 4, 2), (1, 5, 3)))

    def test_rounds_are_entangled(self):
        for machine in DRAWN:
            for word in all_words(machine.letters, 3):
                for told in rounds_of(machine, word):
                    rooms = tuple(sorted(told))
                    self.assertIs(is_ring(machine, rooms, word * len(told)), True)
                    self.assertIs(are_entangled(machine, rooms), True)
                    self.assertGreaterEqual(line_number(machine), len(told))
                    if least(machine).size == machine.size:
                        self.assertGreaterEqual(fewest_lines(machine), len(told))

    def test_turned_rooms(self):
        kinds = set()
        for machine in DRAWN:
            turned = plain_turns(machine)
            pairs = []
            for many in range(2, 7):
                right = min((pair for pair in turned.items() if len(pair[0]) == many), default=None)
                self.assertEqual(turned_rooms(machine, many), right)
                kinds.add((many, right is None))
                if right is not None:
                    pairs.append(right)
                    self.assertIn(right[0], rounds_of(machine, right[1]))
            self.assertEqual(list(each_turned(machine)), pairs)
            self.assertIs(has_turns(machine), bool(turned))
        self.assertEqual(kinds, {(many, none) for many in range(2, 7) for none in (False, True)})
        self.assertEqual((turned_rooms(THIRDS, 3), turned_rooms(THIRDS, 2)), (((0, 1, 2), (0,)), None))
        self.assertEqual(list(each_turned(EMPTY_WORD)), [])

    def test_long_words(self):
        told = [turned_rooms(SIX, many) for many in range(2, 7)]
        for many, (rooms, word) in zip(range(2, 7), told):
            self.assertEqual((len(rooms), rooms in rounds_of(SIX, word)), (many, True))
            self.assertLess(len(word), 720)
        self.assertEqual(told[-1], (tuple(range(6)), (0,)))
        self.assertEqual(told[0][0], (0, 1))
        self.assertIs(has_turns(SIX), True)
        alternating = Machine(2, ((1, 0), (2, 2), (0, 3), (3, 4), (4, 5), (5, 1)), (0,))
        self.assertEqual(turned_rooms(alternating, 6), None)
        for machine in (SIX, alternating):
            turned = plain_turns(machine)
            for many in range(2, 7):
                right = min((pair for pair in turned.items() if len(pair[0]) == many), default=None)
                self.assertEqual(turned_rooms(machine, many), right)

    def test_prime_numbers_of_rooms(self):
        for machine in DRAWN:
            turned = plain_turns(machine)
            self.assertEqual(bool(turned), any(len(rooms) in (2, 3, 5) for rooms in turned))
            if fewest_lines(machine) == 1:
                self.assertIs(has_turns(least(machine)), False)

    def test_what_is_not_true(self):
        self.assertEqual((least(MOST), has_turns(MOST), fewest_lines(MOST)), (MOST, False, 2))
        self.assertEqual((fewest_lines(MOST), fewest_lines(with_order(MOST, (1, 0)))), (2, 1))

    def test_wrong_arguments(self):
        for value in NO_MACHINES:
            for args in ((None,), ((),), (2,)):
                self.fails(InvalidMachine, rounds_of, value, *args)
                self.fails(InvalidMachine, turned_rooms, value, *args)
            self.fails(InvalidMachine, has_turns, value)
            self.fails(InvalidMachine, first_of(each_turned), value)
        for value in NO_WORDS_OF_2 + ((0,) * 201,):
            self.fails(InvalidWord, rounds_of, EVEN, value)
            self.fails(InvalidWord, rounds_of, ring(24, 2), value)
        for value in NO_NUMBERS + (0, 1, 7, LONG):
            self.fails_with(InvalidNumber, value, turned_rooms, EVEN, value)
            self.fails_with(InvalidNumber, value, turned_rooms, ring(7), value)
        for machine in (ring(7), chain(7, 2), chain(24, 4), unfolded(EVEN, 3)):
            for many in (2, 6):
                self.fails_with(TooMany, 6, turned_rooms, machine, many)
            self.fails_with(TooMany, 6, has_turns, machine)
            self.fails_with(TooMany, 6, first_of(each_turned), machine)
        self.assertEqual((turned_rooms(ring(6), 6), has_turns(ring(6))), (((0, 1, 2, 3, 4, 5), (0,)), True))
        each_turned(None)


class OrderTests(Checks):

    def test_machines_with_an_order(self):
        for machine in DRAWN:
            for order in permutations(range(machine.letters)):
                told = with_order(machine, order)
                self.assertEqual((type(told), told.letters, told.good), (Machine, machine.letters, machine.good))
                for word in all_words(machine.letters, 3):
                    self.assertEqual(plain_room(told, word), plain_room(machine, ordered_word(order, word)))
                self.assertEqual(Machine(told.letters, told.doors, told.good), told)
                self.assertIs(has_turns(told), has_turns(machine))
                for rooms in lots_of(machine.size)[:20]:
                    self.assertIs(does_go_round(told, rooms), does_go_round(machine, rooms))
            self.assertEqual(with_order(machine, tuple(range(machine.letters))), machine)
        large = unfolded(EVEN, 5)
        self.assertGreater(large.size, 24)
        self.assertEqual(with_order(with_order(large, (1, 0)), (1, 0)), large)

    def test_orders_one_behind_the_other(self):
        for machine in DRAWN[::3]:
            for one, other in product(permutations(range(machine.letters)), repeat=2):
                both = tuple(one[letter] for letter in other)
                self.assertEqual(with_order(with_order(machine, one), other), with_order(machine, both))

    def test_undone_orders(self):
        for letters in (1, 2, 3, 4):
            for order in permutations(range(letters)):
                undone = undone_order(letters, order)
                self.assertEqual(tuple(order[letter] for letter in undone), tuple(range(letters)))
                self.assertEqual(undone_order(letters, undone), order)
                for machine in [told for told in DRAWN if told.letters == letters][:8]:
                    self.assertEqual(with_order(with_order(machine, order), undone), machine)
                    self.assertEqual(with_order(with_order(machine, undone), order), machine)

    def test_fewest_lines_by_orders(self):
        unlike = 0
        for at, machine in enumerate(DRAWN):
            told = order_lines(machine)
            orders = list(permutations(range(machine.letters)))
            self.assertEqual((type(told), list(told)), (dict, orders))
            self.assertEqual(list(told.values()), [fewest_lines(with_order(machine, order)) for order in orders])
            least_number = min(told.values())
            self.assertEqual(best_order(machine), [order for order in orders if told[order] == least_number][0])
            self.assertEqual((order_lines(least(machine)), order_lines(doubled(machine, at % machine.size))), (told, told))
            unlike += len(set(told.values())) > 1
            told.clear()
            self.assertEqual(list(order_lines(machine)), orders)
        self.assertGreater(unlike, 3)
        self.assertEqual((order_lines(ALL), best_order(FORK)), ({(0, 1): 1, (1, 0): 1}, (0, 1, 2)))
        self.assertEqual(len(order_lines(machine_of(4, ((0,) * 4,), (0,)))), 24)

    def test_entangled_rooms_can_change(self):
        self.assertEqual((entangled_number(MOST), entangled_number(with_order(MOST, (1, 0)))), (2, 1))
        # Words that turn rooms do so with each order.
        for machine in TURNING:
            small = least(machine)
            longest = max((len(rooms) for rooms in plain_turns(small)), default=1)
            self.assertGreaterEqual(min(order_lines(machine).values()), longest)

    def test_six_rooms_and_seven(self):
        for machine in (ring(7), chain(7, 2), chain(24, 4), ring(14, good=(0, 7))):
            self.fails_with(TooMany, 6, order_lines, machine)
            self.fails_with(TooMany, 6, best_order, machine)
        self.assertEqual((order_lines(ring(12, good=(0, 6))), best_order(ring(6))), ({(0,): 6}, (0,)))
        self.assertEqual(order_lines(shuffled(ring(6), 1)), {(0,): 6})

    def test_wrong_machines(self):
        for value in NO_MACHINES:
            self.fails(InvalidMachine, with_order, value, None)
            self.fails(InvalidMachine, with_order, value, (0, 1))
            self.fails(InvalidMachine, order_lines, value)
            self.fails(InvalidMachine, best_order, value)

    def test_wrong_orders(self):
        for value in NO_ORDERS + (Endless(3, (0, 1, 2)),):
            self.fails(InvalidOrder, with_order, FORK, value)
            self.fails(InvalidOrder, undone_order, 3, value)
        for value in NO_LETTERS:
            for order in (None, (0, 1), (0,)):
                self.fails_with(InvalidNumber, value, undone_order, value, order)
        for letters in (1, 2, 3, 4):
            self.fails(InvalidOrder, undone_order, letters, tuple(range(letters + 1)))
            self.fails(InvalidOrder, undone_order, letters, tuple(range(1, letters + 1)))
