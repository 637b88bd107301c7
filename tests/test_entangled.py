"""[12.1] to [12.5]: entangled rooms."""

from itertools import combinations, product

from roomlines.base.endless import Endless, endless_of
from roomlines.errors import InvalidMachine, InvalidRooms, TooMany
from roomlines.mach.heights import all_heights
from roomlines.mach.least import least
from roomlines.mach.machines import Machine
from roomlines.order.before import are_mixed
from roomlines.order.lines import is_side_by_side, line_number
from roomlines.ring import entangled as module
from roomlines.ring.entangled import (are_entangled, entangled_number, entangled_paper, entangled_rooms,
                                      entangled_tuples, is_entangled_paper, is_entangling)
from roomlines.ring.tuples import does_go_round, greatest_ring, least_ring, round_tuples
from tests.checks import Checks, first_of
from tests.support import (ALL, EMPTY_WORD, EVEN, FORK, HOOK, KNOWN, NO_TUPLES, SPLIT, THIRDS, WEAVE, all_words, chain,
                           doubled, lots_of, plain_order, plain_room, random_machines, ring, shuffled, spread,
                           turning_machines)
from tests.test_lines import NO_MACHINES
from tests.test_tuples import NO_ROOMS, PAIRS, RUN, SIX, led
from tests.test_words import NO_WORDS_OF_2

EXAMPLES = """
>>> SPLIT = Machine(3, ((1, None, 2), (None, 1, None), (None, 2, None)), (1, 2))
>>> [are_entangled(EVEN, (0, 1)), are_entangled(WEAVE, (0, 1)), are_entangled(SPLIT, (1, 2)), entangled_number(EVEN), entangled_number(SPLIT)]
[True, False, False, 2, 1]
>>> [entangled_paper(WEAVE, (0, 1)), entangled_paper(SPLIT, (1, 2)), entangled_paper(EVEN, (1,)), entangled_rooms(EVEN), entangled_rooms(WEAVE)]
[('still',), ('apart', 2, 1), ('alone',), (0, 1), ()]
>>> [is_entangled_paper(EVEN, (0, 1), ("ring", (1,), "below", ((), (0,)))), is_entangled_paper(EVEN, (0, 1), ("ring", (1,), "above", ((), (0,)))), is_entangled_paper(EVEN, (0, 1), ("ring", (0,), "below", ((), (0,))))]
[True, False, False]
>>> [is_entangling(EVEN, (0, 1), (1,)), is_entangling(EVEN, (0, 1), (0, 0)), is_entangling(SPLIT, (1, 2), (1,)), list(entangled_tuples(EVEN)), list(entangled_tuples(FORK))]
[True, True, False, [(0, 1)], []]
>>> are_entangled(EVEN, (1, 0))
raises InvalidRooms
"""
NAMES = {"ALL": ALL, "EVEN": EVEN, "WEAVE": WEAVE, "FORK": FORK, "Machine": Machine}
# The words 1 0 .. 0 to both rooms lie above their rings, which have no letter but 0.
ABOVE = Machine(2, ((None, 1), (2, None), (1, None)), (1,))
# Machines with rooms that go round and are not entangled.
APART = (SPLIT, Machine(2, ((0, 1), (1, None)), (0, 1)), Machine(3, ((None, 2, None), (2, 1, None), (2, 0, 1)), (0,)),
         Machine(3, ((1, None, 2), (0, 2, 2), (2, 2, None)), (0, 2)), Machine(3, ((1, 0, 2), (0, 1, 2), (0, 2, 1)), (0,)),
         Machine(4, ((None, 0, 2, 1), (2, None, 1, 1), (2, None, 0, 1)), (0, 2)),
         Machine(4, ((None, 1, 0, 2), (None,) * 4, (None, 0, 2, 1)), (0, 1, 2)),
         Machine(2, ((0, 3), (2, 2), (1, None), (2, None)), (0, 1)), Machine(2, ((0, 2), (1, 1), (2, 3), (3, 1)), (0, 1)),
         Machine(2, ((0, 2), (2, 3), (1, 2), (2, 3)), (2, 3)),
         Machine(3, ((0, 2, 1), (3, 1, 4), (4, None, 4), (2, 3, 2), (None, 2, None)), (1, 4)))
LENGTHS = {1: 8, 2: 6, 3: 4, 4: 3}
DRAWN = (tuple(machine for machine in KNOWN if machine.size < 7) + APART + (RUN, PAIRS, ABOVE)
         + tuple(random_machines(121, 150)) + tuple(turning_machines(122, 25, most_rooms=4))
         + tuple(random_machines(123, 80, most_rooms=4, most_letters=2)))
WRONG_PAPERS = NO_TUPLES + ((), ("",), ("ring",), ("Alone",), (True,), (None,), (1,), ("alone", ()), (("alone",),),
                            ("still", 1), ("apart",), ("apart", 2), ("apart", 2, 1, 0), ("ring", (1,), "below"))


def beside(word, endless):
    """-1 for a word that is ahead of an endless word, 1 for one that is behind it."""
    # One letter more than the word has tells them apart at last.
    return plain_order(word, endless, len(word) + 1)


def rings_of(machine, rooms, length):
    """All rings of the rooms with at most so many letters."""
    return [word for word in all_words(machine.letters, length) if word and led(machine, rooms, word) == rooms]


def words_of_rooms(machine, length):
    """For each room the list of the words to it with at most so many letters."""
    found = [[] for _ in range(machine.size)]
    for word in all_words(machine.letters, length):
        room = plain_room(machine, word)
        if room is not None:
            found[room].append(word)
    return found


def pieces():
    """All pairs of a machine that is drawn and of a tuple of at least two of its rooms."""
    return [(machine, rooms) for machine in DRAWN for rooms in lots_of(machine.size) if len(rooms) > 1]


class EntangledTests(Checks):

    def test_examples(self):
        self.examples(EXAMPLES, {**vars(module), **NAMES})

    def test_constants(self):
        self.assertEqual((module.SIDES, module.MOST_LETTERS), (("below", "above"), 2000))

    def test_by_heights(self):
        found = {True: 0, False: 0}
        for machine, rooms in pieces():
            told = are_entangled(machine, rooms)
            if not does_go_round(machine, rooms):
                self.assertIs(told, False)
                continue
            heights = all_heights(machine)
            late, early = greatest_ring(machine, rooms), least_ring(machine, rooms)
            low = [room for room in rooms if plain_order(heights[room][0], late) >= 0]
            high = [room for room in rooms if plain_order(heights[room][1], early) <= 0]
            self.assertIs(told, not low or not high)
            found[told] += 1
            if not told:
                self.assertEqual(entangled_paper(machine, rooms), ("apart", low[0], high[0]))
        self.assertTrue(found[True] > 200 and found[False] > 20, found)

    def test_by_rings_and_words(self):
        shown = 0
        for machine, rooms in pieces():
            length = LENGTHS[machine.letters]
            rings, words = rings_of(machine, rooms, length), words_of_rooms(machine, length)
            told = are_entangled(machine, rooms)
            # For each side it is enough to look at the outermost word to each room.
            nearest = {side: [sorted(words[room], key=lambda word: word[::-1])[at] for room in rooms if words[room]]
                       for side, at in ((-1, 0), (1, -1))}
            for word in rings:
                endless = Endless(machine.letters, word)
                for side in (-1, 1):
                    if len(nearest[side]) == len(rooms) and all(beside(near, endless) == side for near in nearest[side]):
                        shown += 1
                        self.assertIs(told, True)
                        self.assertIs(is_entangling(machine, rooms, word), True)
        self.assertGreater(shown, 500)

    def test_papers(self):
        kinds = {}
        for machine, rooms in pieces():
            told = entangled_paper(machine, rooms)
            self.assertIs(is_entangled_paper(machine, rooms, told), True)
            kinds[told[0], told[2] if told[0] == "ring" else ""] = True
            self.assertEqual(told[0] == "ring", are_entangled(machine, rooms))
            self.assertEqual(told == ("still",), not does_go_round(machine, rooms))
            if told[0] == "ring":
                _, word, side, words = told
                self.assertEqual((len(told), led(machine, rooms, word)), (4, rooms))
                self.assertTrue(1 <= len(word) <= 1000 and max(map(len, words)) <= 1000)
                self.assertEqual(tuple(plain_room(machine, to) for to in words), rooms)
                endless = endless_of(machine.letters, word, ())
                self.assertEqual({beside(to, endless) for to in words}, {-1 if side == "below" else 1})
        self.assertEqual(sorted(kinds), [("apart", ""), ("ring", "above"), ("ring", "below"), ("still", "")])

    def test_one_room(self):
        for machine in DRAWN:
            for room in range(machine.size):
                self.assertIs(are_entangled(machine, (room,)), True)
                self.assertEqual(entangled_paper(machine, (room,)), ("alone",))
                self.assertIs(is_entangled_paper(machine, (room,), ("alone",)), True)
                for value in WRONG_PAPERS + (("still",), ("apart", 0, 0), ("ring", (0,), "below", ((),)),
                                             ("ring", (1,), "below", ((),)), ("ring", (0,), "above", ((0,),))):
                    self.assertIs(is_entangled_paper(machine, (room,), value), False)
                for word in all_words(machine.letters, 3):
                    goes = word != () and plain_room(machine, word, room) == room
                    self.assertIs(is_entangling(machine, (room,), word), goes)
        self.assertEqual((does_go_round(EMPTY_WORD, (0,)), entangled_paper(EMPTY_WORD, (0,))), (False, ("alone",)))

    def test_sides(self):
        self.assertEqual(entangled_paper(ABOVE, (1, 2))[2], "above")
        self.assertIs(is_entangled_paper(ABOVE, (1, 2), ("ring", (0, 0), "above", ((1,), (1, 0)))), True)
        self.assertIs(is_entangled_paper(ABOVE, (1, 2), ("ring", (0, 0), "below", ((1,), (1, 0)))), False)
        for machine, rooms in pieces():
            told = entangled_paper(machine, rooms)
            if told[0] == "ring":
                other = "below" if told[2] == "above" else "above"
                self.assertIs(is_entangled_paper(machine, rooms, told[:2] + (other,) + told[3:]), False)

    def test_mixed_for_ever(self):
        for machine, rooms in pieces():
            told = entangled_paper(machine, rooms)
            if told[0] != "ring":
                continue
            self.assertIs(is_side_by_side(machine, rooms), True)
            _, word, side, words = told
            for one, other in combinations(rooms, 2):
                self.assertIs(are_mixed(machine, one, other), True)
            # Words to one room and to another one alternate, as more and more rings stand behind them.
            for one, other in product(words, repeat=2):
                many = len(one) + len(word)
                later = tuple(word) * many
                self.assertEqual(plain_order(one, other + later, 5000), -1 if side == "below" else 1)

    def test_parts_and_rooms_led_to(self):
        for machine, rooms in pieces():
            if not are_entangled(machine, rooms):
                continue
            for many in range(1, len(rooms)):
                for part in combinations(rooms, many):
                    self.assertIs(are_entangled(machine, part), True)
            for word in all_words(machine.letters, 2):
                goals = led(machine, rooms, word)
                if None in goals or len(set(goals)) < len(goals):
                    continue
                if any(led(machine, goals, back) == rooms for back in all_words(machine.letters, 3)):
                    self.assertIs(are_entangled(machine, tuple(sorted(goals))), True)

    def test_tuples_and_numbers(self):
        numbers = set()
        for machine in DRAWN:
            told = [rooms for rooms in lots_of(machine.size) if len(rooms) > 1 and are_entangled(machine, rooms)]
            self.assertEqual(list(entangled_tuples(machine)), told)
            longest = max(map(len, told), default=0)
            self.assertEqual(entangled_rooms(machine), next((rooms for rooms in told if len(rooms) == longest), ()))
            self.assertEqual(entangled_number(machine), max(1, longest))
            self.assertLessEqual(entangled_number(machine), line_number(machine))
            numbers.add(entangled_number(machine))
        self.assertLessEqual({1, 2, 3, 4}, numbers)
        self.assertEqual((entangled_rooms(SIX), entangled_number(SIX)), ((0, 1, 2, 3, 4, 5), 6))
        self.assertEqual((entangled_rooms(ring(6)), entangled_number(chain(6, 4))), ((0, 1, 2, 3, 4, 5), 1))
        self.assertEqual((entangled_rooms(ALL), entangled_number(ALL), list(entangled_tuples(ALL))), ((), 1, []))

    def test_least_machines_and_alike_ones(self):
        for at, machine in enumerate(DRAWN):
            small = least(machine)
            number = entangled_number(small)
            self.assertLessEqual(number, line_number(machine))
            if small.size < 24:
                self.assertLessEqual(number, line_number(doubled(small, at % small.size)))
            if machine.size > 1:
                self.assertEqual(entangled_number(shuffled(machine, at)), entangled_number(machine))

    def test_entangling_rings(self):
        found = {True: 0, False: 0}
        for machine, rooms in pieces():
            heights = all_heights(machine)
            rings = rings_of(machine, rooms, max(3, LENGTHS[machine.letters] - 1))
            for word in all_words(machine.letters, 3):
                if word not in rings:
                    self.assertIs(is_entangling(machine, rooms, word), False)
            for word in rings:
                endless = Endless(machine.letters, word)
                below = all(plain_order(heights[room][0], endless) < 0 for room in rooms)
                above = all(plain_order(heights[room][1], endless) > 0 for room in rooms)
                told = is_entangling(machine, rooms, word)
                self.assertIs(told, below or above)
                found[told] += 1
                if told:
                    self.assertIs(are_entangled(machine, rooms), True)
        self.assertGreater(min(found.values()), 20)
        self.assertIs(is_entangling(EVEN, (0, 1), (1,) * 3000), True)
        self.assertIs(is_entangling(EVEN, (0, 1), (1,) * 3000 + (0,)), False)

    def test_what_is_not_true(self):
        self.assertEqual((are_mixed(WEAVE, 0, 1), are_entangled(WEAVE, (0, 1))), (True, False))
        self.assertEqual((does_go_round(SPLIT, (1, 2)), are_entangled(SPLIT, (1, 2))), (True, False))
        endless = Endless(2, (1,))
        self.assertTrue(all(beside(word, endless) == -1 for word in all_words(2, 6)))
        self.assertIs(is_entangling(EVEN, (0, 1), (1,)), True)


class PaperTests(Checks):

    def test_papers_with_one_thing_wrong(self):
        right = ("ring", (1,), "below", ((), (0,)))
        self.assertIs(is_entangled_paper(EVEN, (0, 1), right), True)
        for value in WRONG_PAPERS + (
                ("still",), ("alone",), ("apart", 0, 1), ("apart", 0, 0), list(right), right[:3], right + (0,),
                ("Ring",) + right[1:], (None,) + right[1:], (True,) + right[1:], (EVEN,) + right[1:],
                ("ring", (), "below", ((), (0,))), ("ring", (0,), "below", ((), (0,))), ("ring", [1], "below", ((), (0,))),
                ("ring", (True,), "below", ((), (0,))), ("ring", (2,), "below", ((), (0,))),
                ("ring", 1, "below", ((), (0,))), ("ring", None, "below", ((), (0,))),
                ("ring", Endless(2, (1,)), "below", ((), (0,))), ("ring", (1,), "above", ((), (0,))),
                ("ring", (1,), "low", ((), (0,))), ("ring", (1,), None, ((), (0,))), ("ring", (1,), -1, ((), (0,))),
                ("ring", (1,), ("below",), ((), (0,))), ("ring", (1,), EVEN, ((), (0,))),
                ("ring", (1,), "below", ((0,), ())), ("ring", (1,), "below", ((),)), ("ring", (1,), "below", ()),
                ("ring", (1,), "below", ((), (0,), (0,))), ("ring", (1,), "below", [(), (0,)]),
                ("ring", (1,), "below", ((), [0])), ("ring", (1,), "below", ((), (False,))),
                ("ring", (1,), "below", ((), (2,))), ("ring", (1,), "below", ((), None)),
                ("ring", (1,), "below", ((), "0")), ("ring", (1,), "below", None), ("ring", (1,), "below", ((), (1,))),
                ("ring", (1,), "below", ((), (0, 10 ** 60))), ("ring", (1,), "below", ((), EVEN)),
                ("ring", (1,), ((), (0,)), "below")):
            self.assertIs(is_entangled_paper(EVEN, (0, 1), value), False)
        self.assertIs(is_entangled_paper(EVEN, (0, 1), ("ring", (0, 0), "above", ((1,), (0, 1)))), True)
        self.assertIs(is_entangled_paper(EVEN, (0, 1), ("ring", (0, 0), "above", ((1,), (0,)))), False)
        for side in ("low", "high", "Above", "", True, None, 1, -1, (), ("above",), ["above"], {"above": 1}, EVEN):
            self.assertIs(is_entangled_paper(EVEN, (0, 1), ("ring", (0, 0), side, ((1,), (0, 1)))), False)
            self.assertIs(is_entangled_paper(EVEN, (0, 1), ("ring", (1,), side, ((), (0,)))), False)

    def test_papers_of_rooms_that_are_not_entangled(self):
        for value in WRONG_PAPERS + (("alone",), ("apart", 0, 1), ("apart", 0, 0), ("ring", (0, 1), "below", ((), (0,))),
                                     ("ring", (0,), "below", ((), (0,)))):
            self.assertIs(is_entangled_paper(WEAVE, (0, 1), value), False)
        self.assertIs(is_entangled_paper(WEAVE, (0, 1), ("still",)), True)
        for value in WRONG_PAPERS + (("alone",), ("still",), ("apart", 1, 2), ("apart", 1, 1), ("apart", 2, 2),
                                     ("apart", 2, True), ("apart", "2", 1), ("apart", None, 1), ("apart", (2,), (1,)),
                                     ["apart", 2, 1], ("Apart", 2, 1), (2, 1), ("ring", (1,), "below", ((0,), (2,))),
                                     ("ring", (1,), "above", ((0, 1), (2, 1))), ("apart", 2, 10 ** 60),
                                     ("apart", SPLIT, 1), (SPLIT, 2, 1)):
            self.assertIs(is_entangled_paper(SPLIT, (1, 2), value), False)
        self.assertIs(is_entangled_paper(SPLIT, (1, 2), ("apart", 2, 1)), True)
        for value, right in ((("apart", 1, 0), True), (("apart", True, 0), False), (("apart", 1, False), False),
                             (("apart", 1, 0, 0), False), (("apart", 1), False), (("still",), False)):
            self.assertIs(is_entangled_paper(APART[1], (0, 1), value), right)
        for machine, rooms in pieces()[::3]:
            if does_go_round(machine, rooms):
                told = entangled_paper(machine, rooms)
                for one, other in product(range(machine.size), repeat=2):
                    value = ("apart", one, other)
                    self.assertIs(is_entangled_paper(machine, rooms, value), told == value)
                self.assertIs(is_entangled_paper(machine, rooms, ("still",)), False)

    def test_all_small_papers(self):
        for machine, rooms in ((EVEN, (0, 1)), (ABOVE, (1, 2)), (THIRDS, (0, 2)), (HOOK, (1, 2))):
            words = all_words(2, 3)
            for word, side, one, other in product(all_words(2, 2), module.SIDES, words, words):
                right = word != () and led(machine, rooms, word) == rooms
                right = right and (plain_room(machine, one), plain_room(machine, other)) == rooms
                if right:
                    endless, wanted = Endless(2, word), -1 if side == "below" else 1
                    right = beside(one, endless) == wanted == beside(other, endless)
                self.assertIs(is_entangled_paper(machine, rooms, ("ring", word, side, (one, other))), right)

    def test_longest_words(self):
        for many, right in ((1999, True), (2000, True), (2001, False)):
            word = (0, 0) + (1,) * (many - 2)
            self.assertIs(is_entangled_paper(EVEN, (0, 1), ("ring", (1,), "below", (word, (0,)))), right)
            self.assertIs(is_entangled_paper(EVEN, (0, 1), ("ring", (1,) * many, "below", ((), (0,)))), right)
            self.assertIs(is_entangled_paper(EVEN, (0, 1), ("ring", (1,) * many, "below", ((), (0,) + word[2:]))), right)
            self.assertIs(is_entangled_paper(EVEN, (0, 1), ("ring", (0, 1, 0) + (1,) * (many - 3), "below",
                                                            ((), (0,)))), right)
        self.assertEqual(spread(Endless(2, (1,)), 3), (1, 1, 1))

    def test_long_papers_of_six_rooms(self):
        for machine in tuple(turning_machines(124, 4, most_rooms=6)) + (SIX,):
            every = tuple(range(machine.size))
            told = entangled_paper(machine, every)
            self.assertIs(is_entangled_paper(machine, every, told), True)
            if machine.size > 1 and told[0] == "ring":
                self.assertLessEqual(max(map(len, told[3] + (told[1],))), 1000)


class WrongTests(Checks):

    def test_six_rooms_and_seven(self):
        for machine in (ring(7), chain(7, 2), chain(24, 4)):
            for rooms in ((0,), (1, 2, 3, 4, 5, 6)):
                self.fails_with(TooMany, 6, are_entangled, machine, rooms)
                self.fails_with(TooMany, 6, entangled_paper, machine, rooms)
                self.fails_with(TooMany, 6, is_entangled_paper, machine, rooms, ("alone",))
                self.fails_with(TooMany, 6, is_entangling, machine, rooms, (0,))
            for rooms in ((0, 1, 2, 3, 4, 5, 6), (6, 5), ()):
                self.fails(InvalidRooms, are_entangled, machine, rooms)
                self.fails(InvalidRooms, entangled_paper, machine, rooms)
                self.fails(InvalidRooms, is_entangled_paper, machine, rooms, ("alone",))
                self.fails(InvalidRooms, is_entangling, machine, rooms, (0,))
            self.fails_with(TooMany, 6, first_of(entangled_tuples), machine)
            self.fails_with(TooMany, 6, entangled_rooms, machine)
            self.fails_with(TooMany, 6, entangled_number, machine)
        self.assertIs(are_entangled(ring(6), (0, 1, 2, 3, 4, 5)), True)
        self.assertEqual(list(round_tuples(ring(6), 6)), [(0, 1, 2, 3, 4, 5)])

    def test_wrong_machines(self):
        for value in NO_MACHINES:
            for rooms in (None, (0,)):
                self.fails(InvalidMachine, are_entangled, value, rooms)
                self.fails(InvalidMachine, entangled_paper, value, rooms)
                self.fails(InvalidMachine, is_entangled_paper, value, rooms, ("alone",))
                self.fails(InvalidMachine, is_entangling, value, rooms, (0,))
            self.fails(InvalidMachine, first_of(entangled_tuples), value)
            self.fails(InvalidMachine, entangled_rooms, value)
            self.fails(InvalidMachine, entangled_number, value)

    def test_wrong_rooms_and_rings(self):
        for value in NO_ROOMS:
            for machine in (SIX, chain(24, 2)):
                self.fails(InvalidRooms, are_entangled, machine, value)
                self.fails(InvalidRooms, entangled_paper, machine, value)
                self.fails(InvalidRooms, is_entangled_paper, machine, value, ("alone",))
                self.fails(InvalidRooms, is_entangling, machine, value, (0,))
        for value in NO_WORDS_OF_2 + ((), [1], (1, 2), (1, True), Endless(2, (1,)), EVEN):
            if value != (0,) * 201:
                self.assertIs(is_entangling(EVEN, (0, 1), value), False)
        self.assertIs(is_entangling(EVEN, (0, 1), (0,) * 201 + (0,)), True)
