"""[11.1] to [11.6]: rooms that go round."""

from itertools import combinations, product

from roomlines.base.endless import Endless
from roomlines.errors import InvalidMachine, InvalidNumber, InvalidRooms, InvalidWord, Refused, TooMany
from roomlines.mach.least import least
from roomlines.mach.machines import Machine
from roomlines.ring import tuples as module
from roomlines.ring.tuples import (does_go_round, greatest_ring, is_ring, least_ring, led_rooms, piece_of, ring_of,
                                   round_tuples)
from tests.checks import Checks, first_of
from tests.support import (ALL, EMPTY_WORD, EVEN, FEW, FORK, HOOK, KNOWN, LONG, NO_NUMBERS, NO_TUPLES, SPLIT, THIRDS,
                           WEAVE, all_words, chain, doubled, lots_of, plain_order, plain_room, random_machines, ring,
                           shuffled, spread, turning_machines)
from tests.test_lines import NO_MACHINES
from tests.test_words import NO_WORDS_OF_2

EXAMPLES = """
>>> RUN = Machine(2, ((1, None), (0, 1)), (0,))
>>> PAIRS = Machine(4, ((0, 0, None, 1), (1, None, 1, 2), (None, 2, 2, None)), (2,))
>>> [does_go_round(EVEN, (0, 1)), ring_of(EVEN, (0, 1)), is_ring(EVEN, (0, 1), (0, 0)), led_rooms(EVEN, (0, 1), (0,)), piece_of(EVEN, (0, 1))]
[True, (1,), True, (1, 0), ((0, 1), (1, 0))]
>>> [greatest_ring(EVEN, (0, 1)) == Endless(2, (1,)), least_ring(EVEN, (0, 1)) == Endless(2, (0,)), ring_of(FORK, (1, 3)), ring_of(FORK, (1, 2)), led_rooms(FORK, (1, 2), (0,))]
[True, True, (0, 2), None, None]
>>> [greatest_ring(RUN, (0,)) == Endless(2, (1,), tail=(0,)), least_ring(RUN, (0,)) == Endless(2, (0,)), ring_of(RUN, (0,)), list(round_tuples(WEAVE, 1)), list(round_tuples(WEAVE, 2))]
[True, True, (0, 0), [(0,), (1,)], []]
>>> [list(round_tuples(PAIRS, 2)), list(round_tuples(PAIRS, 3)), list(round_tuples(FORK, 2))]
[[(0, 1), (0, 2), (1, 2)], [], [(1, 3), (2, 4)]]
>>> greatest_ring(WEAVE, (0, 1))
raises Refused(('still',))
"""
NAMES = {"ALL": ALL, "EVEN": EVEN, "WEAVE": WEAVE, "FORK": FORK, "Endless": Endless, "Machine": Machine}
RUN = Machine(2, ((1, None), (0, 1)), (0,))
PAIRS = Machine(4, ((0, 0, None, 1), (1, None, 1, 2), (None, 2, 2, None)), (2,))
# All ways to give six rooms other places.
SIX = Machine(2, tuple(zip((1, 2, 3, 4, 5, 0), (1, 0, 2, 3, 4, 5))), (0,))
LENGTHS = {1: 9, 2: 7, 3: 5, 4: 4}
DRAWN = (tuple(machine for machine in KNOWN if machine.size < 7) + (RUN, PAIRS) + tuple(random_machines(111, 130))
         + tuple(turning_machines(112, 30)) + tuple(random_machines(113, 60, most_rooms=4, most_letters=2)))
# What is no ascending tuple of one to six rooms of a machine of six rooms or more.
NO_ROOMS = NO_TUPLES + ((), (1, 0), (0, 0), (0, 24), (-1,), (-1, 0), (True,), (False, 1), (0, True), (None,), (0, None),
                        ("0",), ([0],), ((0,),), ({},), (10 ** 60,), (0, 1, 2, 2), (0, HOOK))


def led(machine, rooms, word):
    """Where a word leads some rooms."""
    return tuple(plain_room(machine, word, room) for room in rooms)


def nexts(machine, rooms):
    """The tuples of unlike rooms to which single letters lead a tuple."""
    found = [led(machine, rooms, (letter,)) for letter in range(machine.letters)]
    return [told for told in found if None not in told and len(set(told)) == len(told)]


def reached(machine, begin):
    """All tuples of unlike rooms to which words lead some tuples along such ones, these among them."""
    found, queue = set(begin), list(begin)
    for rooms in queue:
        for told in nexts(machine, rooms):
            if told not in found:
                found.add(told)
                queue.append(told)
    return found


def plain_piece(machine, rooms):
    """The tuples of the piece, as [11.2] tells them."""
    found = reached(machine, [rooms])
    back = {rooms}
    while True:
        more = {told for told in found if told not in back and any(goal in back for goal in nexts(machine, told))}
        if not more:
            return back
        back |= more


def goes_round(machine, rooms):
    """Whether a word other than () leads the tuple to itself."""
    return rooms in reached(machine, nexts(machine, rooms))


class WordTests(Checks):

    def test_examples(self):
        self.examples(EXAMPLES, {**vars(module), **NAMES})

    def test_constants(self):
        self.assertEqual(module.MOST_TURNING, 6)

    def test_led_rooms(self):
        merged = 0
        for machine in DRAWN:
            words = all_words(machine.letters, 3)
            for rooms in lots_of(machine.size):
                for word in words:
                    told = led(machine, rooms, word)
                    self.assertEqual(led_rooms(machine, rooms, word), None if None in told else told)
                    merged += None not in told and len(set(told)) < len(told)
        self.assertGreater(merged, 100)
        self.assertEqual(led_rooms(EVEN, (0, 1), (0,) * 199), (1, 0))
        self.assertEqual((led_rooms(FORK, (0, 2), (1,)), led_rooms(HOOK, (0, 1, 2), (0,))), (None, (1, 2, 1)))

    def test_rings(self):
        for machine in DRAWN:
            words = all_words(machine.letters, LENGTHS[machine.letters])
            for rooms in lots_of(machine.size):
                rings = [word for word in words if word != () and led(machine, rooms, word) == rooms]
                told = ring_of(machine, rooms)
                self.assertIs(does_go_round(machine, rooms), told is not None)
                self.assertIs(does_go_round(machine, rooms), goes_round(machine, rooms))
                if rings or told is None:
                    self.assertEqual(told, rings[0] if rings else None)
                else:
                    self.assertGreater(len(told), LENGTHS[machine.letters])
                    self.assertEqual(led(machine, rooms, told), rooms)
                for word in words[:60]:
                    self.assertIs(is_ring(machine, rooms, word), word in rings)

    def test_rings_of_any_length(self):
        self.assertIs(is_ring(EVEN, (0, 1), (0,) * 5000), True)
        self.assertIs(is_ring(EVEN, (0, 1), (0,) * 5001), False)
        self.assertIs(is_ring(EVEN, (0, 1), (0,) * 4999 + (1, 0)), True)
        self.assertIs(is_ring(WEAVE, (0,), (0, 1) * 3000), True)
        turned = ring(6)
        self.assertEqual((ring_of(turned, (0, 1, 2, 3, 4, 5)), len(piece_of(turned, (0, 1, 2, 3, 4, 5)))), ((0,) * 6, 6))

    def test_wrong_rings(self):
        for value in NO_WORDS_OF_2:
            if value != (0,) * 201:
                self.assertIs(is_ring(ALL, (0,), value), False)
        self.assertIs(is_ring(ALL, (0,), (0,) * 201), True)
        for value in ((), (2,), (True,), (0, False), [0], (0, None), (0, 10 ** 60), (0, (0,)), ALL, Endless(2, (0,))):
            self.assertIs(is_ring(ALL, (0,), value), False)

    def test_parts_go_round(self):
        for machine in DRAWN:
            for rooms in lots_of(machine.size):
                word = ring_of(machine, rooms)
                for many in range(1, len(rooms)) if word else ():
                    for part in combinations(rooms, many):
                        self.assertIs(is_ring(machine, part, word), True)

    def test_round_tuples(self):
        for machine in DRAWN:
            for many in range(1, 7):
                self.assertEqual(list(round_tuples(machine, many)),
                                 [rooms for rooms in combinations(range(machine.size), many)
                                  if goes_round(machine, rooms)])
        self.assertEqual(list(round_tuples(SIX, 6)), [(0, 1, 2, 3, 4, 5)])
        self.assertEqual(len(list(round_tuples(SIX, 3))), 20)
        self.assertEqual([list(round_tuples(FEW, many)) for many in (1, 2)], [[], []])

    def test_one_room(self):
        for machine in DRAWN:
            for room in range(machine.size):
                alone = does_go_round(machine, (room,))
                self.assertIs(alone, goes_round(machine, (room,)))
                if not alone:
                    self.assertIs(ring_of(machine, (room,)), None)
                    self.fails_with(Refused, ("still",), piece_of, machine, (room,))
        self.assertEqual((ring_of(ALL, (0,)), piece_of(ALL, (0,)), ring_of(EMPTY_WORD, (0,))), ((0,), ((0,),), None))


class PieceTests(Checks):

    def test_pieces(self):
        longer = 0
        for machine in DRAWN:
            for rooms in lots_of(machine.size):
                if not goes_round(machine, rooms):
                    for call in (piece_of, greatest_ring, least_ring):
                        self.fails_with(Refused, ("still",), call, machine, rooms)
                    continue
                told = piece_of(machine, rooms)
                self.assertEqual(told, tuple(sorted(plain_piece(machine, rooms))))
                self.assertIn(rooms, told)
                self.assertLessEqual(len(ring_of(machine, rooms)), len(told))
                longer += len(told) > 3
        self.assertGreater(longer, 100)
        self.assertEqual(len(piece_of(SIX, (0, 1, 2, 3, 4, 5))), 720)
        self.assertEqual(len(piece_of(SIX, (1, 2, 4, 5))), 360)

    def test_ends_of_the_edges(self):
        runs = 0
        for machine in DRAWN:
            for rooms in lots_of(machine.size):
                if not goes_round(machine, rooms):
                    continue
                piece = {told: [] for told in plain_piece(machine, rooms)}
                for told, letter in product(piece, range(machine.letters)):
                    if led(machine, told, (letter,)) in piece:
                        piece[led(machine, told, (letter,))].append((letter, told))
                for call, sign in ((greatest_ring, 1), (least_ring, -1)):
                    told = call(machine, rooms)
                    self.assertEqual((type(told), told.letters), (Endless, machine.letters))
                    self.assertLessEqual(len(told), len(piece))
                    self.assertEqual(spread(told, 60), self.gone_back(piece, rooms, sign, 60))
                    runs += not is_ring(machine, rooms, told.ring * 60 + told.tail if told.tail else told.ring * 60)
        self.assertGreater(runs, 5)

    def gone_back(self, piece, rooms, sign, many):
        """The greatest or the least letters, the last one first, that go back along doors of the piece."""
        found, letters = {rooms}, []
        for _ in range(many):
            ways = [(sign * letter, told) for goal in found for letter, told in piece[goal]]
            letter = max(ways)[0]
            found = {told for other, told in ways if other == letter}
            letters.append(sign * letter)
        return tuple(letters)

    def test_no_ring_goes_beyond_the_edges(self):
        for machine in DRAWN:
            for rooms in lots_of(machine.size):
                if not goes_round(machine, rooms):
                    continue
                late, early = greatest_ring(machine, rooms), least_ring(machine, rooms)
                for word in all_words(machine.letters, LENGTHS[machine.letters] - 1):
                    if word != () and led(machine, rooms, word) == rooms:
                        endless = Endless(machine.letters, word)
                        self.assertLessEqual(plain_order(endless, late), 0)
                        self.assertLessEqual(plain_order(early, endless), 0)
                # Each end of the edges is the end of a ring: some tuple of the piece is led to the rooms by it.
                for end in (late.end(30), early.end(30)):
                    self.assertTrue(any(led(machine, told, end) == rooms for told in piece_of(machine, rooms)))

    def test_ring_of_more_letters_than_the_piece(self):
        self.assertEqual(len(piece_of(RUN, (0,))), 2)
        for many in range(1, 12):
            word = (0,) + (1,) * many + (0,)
            self.assertIs(is_ring(RUN, (0,), word), True)
            self.assertEqual(plain_order(Endless(2, word), greatest_ring(RUN, (0,))), -1)
        self.assertIs(is_ring(EVEN, (0, 1), (0, 1, 1, 0)), True)

    def test_returned_machines(self):
        for at, machine in enumerate(DRAWN[:60]):
            told = [least(machine), shuffled(machine, at)]
            told.extend([doubled(machine, at % machine.size)] if machine.size < 6 else [])
            for other in told:
                for rooms in lots_of(other.size):
                    self.assertIs(does_go_round(other, rooms), goes_round(other, rooms))

    def test_what_is_not_true(self):
        self.assertEqual([does_go_round(PAIRS, rooms) for rooms in ((0, 1), (0, 2), (1, 2), (0, 1, 2))],
                         [True, True, True, False])
        told = greatest_ring(RUN, (0,))
        self.assertFalse(any(Endless(2, word) == told for word in all_words(2, 10)
                             if word and led(RUN, (0,), word) == (0,)))
        self.assertIs(does_go_round(FORK, (1, 3)), True)
        self.assertEqual(piece_of(FORK, (1, 3)), ((1, 3), (2, 4)))


class WrongTests(Checks):

    def test_six_rooms_and_seven(self):
        for machine in (ring(7), chain(7, 2), chain(24, 4)):
            word = (0,)
            for call in (does_go_round, ring_of, piece_of, greatest_ring, least_ring):
                self.fails_with(TooMany, 6, call, machine, (0,))
                self.fails_with(TooMany, 6, call, machine, (0, 1, 2, 3, 4, 5))
                self.fails(InvalidRooms, call, machine, (0, 1, 2, 3, 4, 5, 6))
            for call in (led_rooms, is_ring):
                self.fails_with(TooMany, 6, call, machine, (1, 2, 3, 4, 5, 6), word)
                self.fails(InvalidRooms, call, machine, (0, 1, 2, 3, 4, 5, 6), word)
            self.fails(InvalidWord, led_rooms, machine, (0,), (4,))
            self.fails_with(TooMany, 6, is_ring, machine, (0,), (4,))
            self.fails_with(TooMany, 6, first_of(round_tuples), machine, 6)
            self.fails_with(InvalidNumber, 7, first_of(round_tuples), machine, 7)
        self.assertEqual(ring_of(ring(6), (0, 1, 2, 3, 4, 5)), (0,) * 6)
        self.fails(InvalidRooms, ring_of, ring(6), (0, 1, 2, 3, 4, 5, 6))

    def test_wrong_machines(self):
        for value in NO_MACHINES:
            for call in (does_go_round, ring_of, piece_of, greatest_ring, least_ring):
                self.fails(InvalidMachine, call, value, None)
                self.fails(InvalidMachine, call, value, (0,))
            self.fails(InvalidMachine, led_rooms, value, None, None)
            self.fails(InvalidMachine, is_ring, value, None, (0,))
            self.fails(InvalidMachine, first_of(round_tuples), value, 7)

    def test_wrong_rooms(self):
        for machine in (SIX, chain(24, 2)):
            for value in NO_ROOMS:
                for call in (does_go_round, ring_of, piece_of, greatest_ring, least_ring):
                    self.fails(InvalidRooms, call, machine, value)
                self.fails(InvalidRooms, led_rooms, machine, value, None)
                self.fails(InvalidRooms, is_ring, machine, value, (0,))

    def test_wrong_words_and_numbers(self):
        for value in NO_WORDS_OF_2:
            self.fails(InvalidWord, led_rooms, EVEN, (0, 1), value)
            self.fails(InvalidWord, led_rooms, chain(7, 2), (0, 1), value)
        for given in NO_NUMBERS + (0, 7, LONG):
            self.fails_with(InvalidNumber, given, first_of(round_tuples), EVEN, given)
            self.fails_with(InvalidNumber, given, first_of(round_tuples), chain(7, 2), given)
        self.assertEqual([list(round_tuples(machine, 3)) for machine in (THIRDS, SPLIT)], [[(0, 1, 2)], []])
        self.assertEqual(list(product(*[round_tuples(EVEN, 2)])), [((0, 1),)])
