"""[15.1] to [15.6]: machines with one line, and lots."""

from itertools import product

from roomlines.base.endless import Endless
from roomlines.errors import InvalidMachine, InvalidNumber, InvalidOperation, InvalidWord, Refused, TooMany
from roomlines.mach.least import are_alike, futures, least
from roomlines.mach.machines import Machine, machine_of
from roomlines.order.lines import line_number, one_line_order
from roomlines.ring.entangled import entangled_rooms
from roomlines.unfold import single as module
from roomlines.unfold.fewest import fewest_lines, fewest_machine, thinned
from roomlines.unfold.single import (has_one_line, is_lot_paper, is_single_machine, lot_paper, lots_to, single_machine,
                                     single_number)
from roomlines.unfold.unfolded import each_unfolded, unfolded
from tests.checks import Checks, first_of
from tests.support import (ALL, EMPTY_WORD, EVEN, FORK, KNOWN, LONG, NO_NUMBERS, NO_TUPLES, WEAVE, all_words, by_end,
                           chain, doubled, plain_future, plain_order, plain_room, random_machines, ring, shuffled,
                           turning_machines)
from tests.test_fewest import BY_FOLD, THREE, WANTS_9, WANTS_ROOMS
from tests.test_lines import NO_MACHINES
from tests.test_unfolded import TWICE
from tests.test_words import NO_WORDS_OF_2

EXAMPLES = """
>>> ENDS, PART = Machine(2, ((0, 1), (0, 1)), (0, 1)), Machine(3, ((1, 2, 1), (None, None, None), (1, None, None)), (1,))
>>> [single_number(ENDS), single_number(WEAVE), single_number(EVEN), has_one_line(EVEN), is_single_machine(ENDS, ALL), is_single_machine(ALL, ENDS)]
[1, 3, None, False, True, False]
>>> [single_machine(PART).doors, single_machine(PART).good]
[((1, 2, 3), (None, None, None), (1, None, None), (None, None, None)), (1, 3)]
>>> [lot_paper(PART, (0,), (1, 0)), lot_paper(PART, (0,), (2,)), lot_paper(PART, (0,), (1,)), is_lot_paper(PART, (2,), (0,), ("between", (1,), ()))]
[('lot',), ('between', (1,), ()), ('future', ()), True]
>>> [list(lots_to(PART, 2)), single_machine(WEAVE).doors]
[[((),), ((0,), (1, 0)), ((1,),), ((2,),)], ((1, None), (None, 2), (1, None))]
>>> single_machine(EVEN)
raises Refused(('entangled', (0, 1)))
"""
NAMES = {"ALL": ALL, "EVEN": EVEN, "WEAVE": WEAVE, "FORK": FORK, "Machine": Machine}
ENDS = Machine(2, ((0, 1), (0, 1)), (0, 1))
PART = Machine(3, ((1, 2, 1), (None, None, None), (1, None, None)), (1,))
DRAWN = (tuple(machine for machine in KNOWN if machine.size < 7) + (ENDS, PART, TWICE, THREE) + tuple(BY_FOLD.values())
         + tuple(random_machines(151, 70)) + tuple(turning_machines(152, 12))
         + tuple(random_machines(153, 40, most_rooms=4, most_letters=2)))
LENGTHS = {1: 7, 2: 4, 3: 3, 4: 2}


def plain_beginnings(machine, length):
    """All beginnings of at most so many letters, in order, with the rooms of the least machine to which they go."""
    told = futures(machine)
    words = by_end([word for word in all_words(machine.letters, length) if plain_room(machine, word) is not None])
    return [(word, told[plain_room(machine, word)]) for word in words]


def single_of(machine):
    """The machine of the lots; None if the language has no machine with one line, or none is found."""
    try:
        return single_machine(machine)
    except (Refused, TooMany):
        return None


class SingleTests(Checks):

    def test_examples(self):
        self.examples(EXAMPLES, {**vars(module), **NAMES})

    def test_constants(self):
        self.assertEqual(module.MAX_LISTED, 8)

    def test_one_line(self):
        found = {True: 0, False: 0}
        for at, machine in enumerate(DRAWN):
            right = fewest_lines(machine) == 1
            for told in (machine, doubled(machine, at % machine.size), unfolded(machine, 1)):
                self.assertIs(has_one_line(told), right)
            found[right] += 1
        self.assertTrue(min(found.values()) > 30, found)
        self.assertEqual((has_one_line(WANTS_9), has_one_line(WANTS_ROOMS[0]), has_one_line(WANTS_ROOMS[1])),
                         (True, True, False))

    def test_machines_of_lots(self):
        sizes = set()
        for at, machine in enumerate(DRAWN):
            if not has_one_line(machine):
                self.assertIs(single_number(machine), None)
                self.fails_with(Refused, ("entangled", entangled_rooms(least(machine))), single_machine, machine)
                continue
            made = single_of(machine)
            if made is None:
                self.fails_with(TooMany, 400, single_number, machine)
                continue
            sizes.add(made.size)
            self.assertEqual(single_number(machine), made.size)
            self.assertEqual((are_alike(made, machine), line_number(made)), (True, 1))
            # The rooms are numbered in their order, and neighbours have unlike futures, so they are lots.
            self.assertEqual(one_line_order(made), tuple(range(made.size)))
            told = futures(made)
            self.assertTrue(all(told[room] != told[room + 1] for room in range(made.size - 1)))
            self.assertLessEqual(least(machine).size, made.size)
            self.assertLessEqual(made.size, fewest_machine(machine).size)
            for other in (doubled(machine, at % machine.size), least(machine), made):
                self.assertEqual(single_machine(other), made)
            if made.size < 25:
                self.assertEqual(Machine(made.letters, made.doors, made.good), made)
        self.assertTrue(max(sizes) > 24 and {1, 2, 3, 4, 5} <= sizes, sizes)

    def test_rooms_have_the_words_of_a_lot(self):
        for machine in DRAWN:
            made = single_of(machine)
            if made is None:
                continue
            rooms = [plain_room(made, word) for word, _ in plain_beginnings(machine, LENGTHS[machine.letters] + 2)]
            self.assertEqual(rooms, sorted(rooms))
            for word in all_words(machine.letters, LENGTHS[machine.letters]):
                room = plain_room(made, word)
                self.assertEqual((room is None, room in made.good), (plain_room(machine, word) is None, machine(word)))

    def test_languages_that_want_more(self):
        for machine, limit in ((WANTS_9, 8), (WANTS_ROOMS[0], 400)):
            self.fails_with(TooMany, limit, single_machine, machine)
            self.fails_with(TooMany, limit, single_number, machine)
            for value in (None, machine, ALL):
                self.fails_with(TooMany, limit, is_single_machine, machine, value)
        # Where there is no machine with one line, none is looked for.
        self.assertIs(single_number(WANTS_ROOMS[1]), None)
        self.fails_with(Refused, ("entangled", entangled_rooms(WANTS_ROOMS[1])), single_machine, WANTS_ROOMS[1])
        self.assertIs(is_single_machine(WANTS_ROOMS[1], WANTS_ROOMS[1]), False)

    def test_is_single_machine(self):
        found = {True: 0, False: 0}
        for at, machine in enumerate(DRAWN):
            made = single_of(machine)
            if made is None:
                if not has_one_line(machine):
                    for value in (machine, least(machine), None, ALL):
                        self.assertIs(is_single_machine(machine, value), False)
                continue
            self.assertIs(is_single_machine(machine, made), True)
            others = [machine, least(machine), doubled(machine, at % machine.size), fewest_machine(machine), thinned(machine)]
            if made.size in range(2, 25):
                others.extend([shuffled(made, at), doubled(made, at % made.size)])
                self.assertIs(is_single_machine(machine, shuffled(made, at)), True)
            others.extend([told for told in each_unfolded(machine) if told.size < 60])
            for value in others:
                right = line_number(value) == 1 and value.size == made.size
                self.assertIs(is_single_machine(machine, value), right)
                found[right] += 1
            other = DRAWN[at - 1]
            if other.letters != machine.letters or not are_alike(other, machine):
                self.assertIs(is_single_machine(machine, other), False)
        self.assertTrue(min(found.values()) > 60, found)
        for value in NO_MACHINES + (None, True, (ALL,), ring(1), ring(2, 2, good=(0, 1))):
            self.assertIs(is_single_machine(ENDS, value), False)
        # One line, but more rooms than lots; as many rooms, but more lines.
        self.assertEqual((line_number(ENDS), line_number(WEAVE)), (1, 2))
        wide = Machine(2, ((1, None), (None, 2), (3, None), (None, 2)), (0, 2))
        self.assertEqual((line_number(wide), is_single_machine(WEAVE, wide)), (1, False))
        turned = Machine(2, ((2, None), (2, None), (None, 1)), (0, 1))
        self.assertIs(is_single_machine(WEAVE, turned), True)
        long_weave = Machine(2, ((1, None), (None, 2), (3, None), (None, 0)), (0, 2))
        self.assertEqual((are_alike(long_weave, WEAVE), is_single_machine(WEAVE, long_weave)), (True, False))

    def test_as_many_rooms_and_more_lines(self):
        # Four rooms, as many as there are lots, but the words 0 and 2 lead to one of them, and 1 lies between.
        value = Machine(3, ((1, 2, 1), (None,) * 3, (3, None, None), (None,) * 3), (1, 3))
        self.assertEqual((single_number(PART), value.size, are_alike(PART, value)), (4, 4, True))
        self.assertEqual((line_number(value), is_single_machine(PART, value)), (2, False))
        self.assertIs(is_single_machine(value, single_machine(PART)), True)
        other = Machine(3, ((1, 2, 3), (None,) * 3, (1, None, None), (None,) * 3), (1, 2, 3))
        self.assertIs(is_single_machine(PART, other), False)

    def test_what_is_not_true(self):
        self.assertEqual((line_number(ENDS), ENDS.size, single_number(ENDS)), (1, 2, 1))
        self.assertEqual((single_number(WEAVE), least(WEAVE).size), (3, 2))
        self.assertEqual(lot_paper(ALL, (0, 1), (1, 0)), ("lot",))


def plain_lot(machine, one, other, length):
    """The words of at most so many letters strictly between two words with another future than the first one."""
    first, last = sorted((one[::-1], other[::-1]))
    told = futures(machine)
    future = told[plain_room(machine, one)]
    return [word for word, found in plain_beginnings(machine, length)
            if first < word[::-1] < last and found != future]


class LotTests(Checks):

    def check_paper(self, machine, one, other, told):
        """The paper is a right one, and the words that it tells show what they must."""
        self.assertIs(is_lot_paper(machine, one, other, told), True)
        rooms = plain_room(machine, one), plain_room(machine, other)
        if told[0] == "future":
            first, second = (plain_future(machine, room, 6) for room in rooms)
            self.assertEqual(told, ("future", min(first ^ second, key=lambda word: (len(word), word))))
        if told[0] == "between":
            _, word, telling = told
            self.assertTrue(plain_order(one, word) * plain_order(word, other) == 1 and len(word) <= 1000)
            first, second = (plain_future(machine, room, 6) for room in (rooms[0], plain_room(machine, word)))
            self.assertEqual(telling, min(first ^ second, key=lambda found: (len(found), found)))

    def test_papers_by_plain_search(self):
        kinds = {}
        for machine in DRAWN[::2]:
            if machine.letters > 2 and machine.size > 5:
                continue
            length = LENGTHS[machine.letters] - 1
            words = [word for word, _ in plain_beginnings(machine, length)][:12]
            told = futures(machine)
            for one, other in product(words, repeat=2):
                paper = lot_paper(machine, one, other)
                self.check_paper(machine, one, other, paper)
                kinds[paper[0]] = kinds.get(paper[0], 0) + 1
                same = told[plain_room(machine, one)] == told[plain_room(machine, other)]
                self.assertEqual(paper[0] == "future", not same)
                if same and plain_lot(machine, one, other, length + 2):
                    self.assertEqual(paper[0], "between")
        self.assertEqual(sorted(kinds), ["between", "future", "lot"])
        self.assertGreater(min(kinds.values()), 300)

    def test_words_between_of_each_kind(self):
        # Only words that are ahead of ends of the last word lie between, or only others behind ends of the first one.
        loop = Machine(2, ((1, 1), (2, 1), (2, 0)), (2,))
        for machine, one, other in ((EVEN, (1, 0), (1, 1, 0)), (EVEN, (0, 1), (1, 0, 1)), (PART, (0,), (2,)),
                                    (loop, (0, 0, 0, 0), (1, 1, 1, 0)), (loop, (1, 1, 0, 0), (1, 1, 0)),
                                    (loop, (1, 0, 0, 0), (0, 1, 1, 0)), (TWICE, (1, 0, 0, 1), (1, 0, 1, 1)),
                                    (loop, (0, 1, 0), (1, 1, 0)), (loop, (0, 1, 0), (0, 1, 1, 0))):
            self.assertTrue(plain_lot(machine, one, other, 5))
            for first, second in ((one, other), (other, one)):
                told = lot_paper(machine, first, second)
                self.assertEqual(told[0], "between")
                self.check_paper(machine, first, second, told)

    def test_papers_by_the_machine_of_lots(self):
        checked = 0
        for machine in DRAWN:
            made = single_of(machine)
            if made is None:
                continue
            words = [word for word, _ in plain_beginnings(machine, LENGTHS[machine.letters] + 1)][::3][:16]
            for one, other in product(words, repeat=2):
                same = plain_room(made, one) == plain_room(made, other)
                self.assertEqual(lot_paper(machine, one, other) == ("lot",), same)
                self.assertIs(is_lot_paper(machine, one, other, ("lot",)), same)
                checked += 1
        self.assertGreater(checked, 3000)

    def test_words_with_one_letter_more_stay_in_a_lot(self):
        for machine in DRAWN[::3]:
            words = [word for word, _ in plain_beginnings(machine, 3)][:10]
            for one, other in product(words, repeat=2):
                if lot_paper(machine, one, other) == ("lot",):
                    for letter in range(machine.letters):
                        if plain_room(machine, one + (letter,)) is not None:
                            self.assertEqual(lot_paper(machine, one + (letter,), other + (letter,)), ("lot",))

    def test_all_papers_of_small_words(self):
        for machine, one, other in ((EVEN, (), (1,)), (EVEN, (1,), (1, 1)), (PART, (0,), (2,)), (WEAVE, (), (0, 1)),
                                    (TWICE, (1, 0, 0), (1, 0, 1)), (TWICE, (), (1, 0, 0)), (ENDS, (), (1,)), (THREE, (0,), (0, 1, 0))):
            told = futures(machine)
            room = told[plain_room(machine, one)]
            right_word = plain_lot(machine, one, other, 9 if machine.letters == 2 else 6)
            same = room == told[plain_room(machine, other)]
            for word in all_words(machine.letters, 4):
                goal = plain_room(machine, word)
                between = same and goal is not None and told[goal] != room and plain_order(
                    one, word) * plain_order(word, other) == 1
                for telling in all_words(machine.letters, 2):
                    right = False
                    if between:
                        first, second = (plain_future(machine, at, 5) for at in (plain_room(machine, one), goal))
                        right = telling == min(first ^ second, key=lambda found: (len(found), found))
                    self.assertIs(is_lot_paper(machine, one, other, ("between", word, telling)), right)
                    self.assertIs(is_lot_paper(machine, other, one, ("between", word, telling)), right)
            self.assertIs(is_lot_paper(machine, one, other, ("lot",)), same and not right_word)

    def test_papers_with_one_thing_wrong(self):
        common = NO_TUPLES + ((), ("",), (None,), (True,), ("Lot",), (("lot",),), ["lot"], ("lot", ()), ("lot", None),
                              ("future",), ("future", (), ()), ("between", (1,)), ("between",), ("between", (), (), ()))
        for value in common + (("future", ()), ("between", (1,), ()), ("between", (), ())):
            self.assertIs(is_lot_paper(PART, (0,), (1, 0), value), False)
        for value in common + (("lot",), ("future", (0,)), ("future", [ ]), ("future", None), ("future", ""),
                               ("future", 0), ("Future", ()), ("between", (1,), ()), ("future", {}), (None, ())):
            self.assertIs(is_lot_paper(PART, (0,), (1,), value), False)
        self.assertIs(is_lot_paper(PART, (0,), (1,), ("future", ())), True)
        right = ("between", (1,), ())
        for value in common + (("lot",), ("future", ()), ("Between",) + right[1:], (None,) + right[1:], list(right)):
            self.assertIs(is_lot_paper(PART, (0,), (2,), value), False)
        for word in NO_TUPLES + ((), (0,), (2,), (1, 0), (1, 1), (True,), (3,), (None,), ("1",), ((1,),), (10 ** 60,),
                                 Endless(3, (1,)), [1]):
            self.assertIs(is_lot_paper(PART, (0,), (2,), ("between", word, ())), False)
        for word in NO_TUPLES + ((0,), (True,), (None,), [], {}, ((),), Endless(3, (1,))):
            self.assertIs(is_lot_paper(PART, (0,), (2,), ("between", (1,), word)), False)
        self.assertEqual(lot_paper(FORK, (1,), (1, 0)), ("future", ()))
        self.assertEqual(lot_paper(FORK, (1,), (1, 2, 0)), ("future", (0, 2)))
        for word, told in (((0, 2), True), ((False, 2), False), ((0, 2, 0), False), ((2,), False)):
            self.assertIs(is_lot_paper(FORK, (1,), (1, 2, 0), ("future", word)), told)

    def test_equal_words(self):
        for machine in DRAWN:
            for word, _ in plain_beginnings(machine, 2):
                self.assertEqual(lot_paper(machine, word, word), ("lot",))
                self.assertIs(is_lot_paper(machine, word, word, ("lot",)), True)

    def test_long_words(self):
        self.assertEqual(lot_paper(ALL, (0,) * 200, (1,) * 200), ("lot",))
        told = lot_paper(EVEN, (0,) * 200, (1,) * 200)
        self.assertEqual(told[0], "between")
        for one, other in (((0,) * 200, (1,) * 200), ((1,) * 199, (1,) * 200), ((0,) + (1,) * 198, (0, 0) + (1,) * 198),
                           ((1,) * 199, (0, 0) + (1,) * 198), ((), (1,)), ((), (0, 0)), ((1,), (1, 1))):
            told = lot_paper(EVEN, one, other)
            self.check_paper(EVEN, one, other, told)
        for many, right in ((1999, True), (2000, True), (2001, False)):
            word = (1,) * (many - 2) + (0, 1)
            self.assertIs(is_lot_paper(EVEN, (1,), (1, 1), ("between", word, ())), right)
        wide = machine_of(1, tuple(((room + 1) % 390,) for room in range(390)), (0,))
        self.assertEqual(lot_paper(wide, (0,) * 5, (0,) * 195), ("future", (0,) * 195))
        self.assertEqual(lot_paper(chain(24, 4), (0,), (0, 0)), ("future", (0,) * 21))
        large = unfolded(machine_of(2, ((1, 0), (2, 1), (3, 2), (0, 3)), (0,)), 6)
        self.assertGreater(large.size, 200)
        told = lot_paper(large, (0, 0, 0, 0), (1,) * 7)
        self.assertIs(is_lot_paper(large, (0, 0, 0, 0), (1,) * 7, told), True)

    def test_more_than_six_rooms(self):
        machine = chain(7, 2, good=(6,), back=0)
        self.fails_with(TooMany, 6, single_machine, machine)
        self.assertEqual(lot_paper(machine, (), (0,)), ("future", (0,) * 5))
        self.assertEqual(lot_paper(machine, (0, 0), (1, 0))[0], "between")
        self.assertEqual(list(lots_to(machine, 1)), [((),), ((0,), (1,))])

    def test_lots_to(self):
        for machine in DRAWN:
            for length in (0, 1, LENGTHS[machine.letters]):
                right = []
                for word, future in plain_beginnings(machine, length):
                    if right and right[-1][0] == future:
                        right[-1][1].append(word)
                    else:
                        right.append((future, [word]))
                self.assertEqual(list(lots_to(machine, length)), [tuple(words) for _, words in right])
        self.assertEqual(list(lots_to(EVEN, 0)), [((),)])
        self.assertEqual(list(lots_to(EMPTY_WORD, 8)), [((),)])
        self.assertEqual([len(told) for told in lots_to(ALL, 8)], [511])
        self.assertEqual(sum(map(len, lots_to(EVEN, 8))), 511)
        # The words () and (1, 1) stand side by side, but longer ones stand between them.
        self.assertEqual(list(lots_to(WEAVE, 2)), [((),), ((0,),), ((0, 1),)])


class WrongTests(Checks):

    def test_six_rooms_and_seven(self):
        for machine in (ring(7), chain(7, 2), chain(24, 4), ring(14, good=(0, 7))):
            for call in (has_one_line, single_machine, single_number):
                self.fails_with(TooMany, 6, call, machine)
            for value in (None, machine):
                self.fails_with(TooMany, 6, is_single_machine, machine, value)
        self.assertEqual((has_one_line(ring(6)), single_number(ring(12, good=(0, 6)))), (False, None))
        self.assertEqual((single_number(chain(6, 1)), single_number(ring(9, good=tuple(range(9))))), (6, 1))
        self.assertEqual(single_machine(chain(6, 1)), chain(6, 1))

    def test_wrong_machines(self):
        for value in NO_MACHINES:
            for call in (has_one_line, single_machine, single_number):
                self.fails(InvalidMachine, call, value)
            self.fails(InvalidMachine, is_single_machine, value, None)
            self.fails(InvalidMachine, lot_paper, value, None, None)
            self.fails(InvalidMachine, is_lot_paper, value, None, None, None)
            self.fails(InvalidMachine, first_of(lots_to), value, None)

    def test_wrong_words(self):
        for value in NO_WORDS_OF_2:
            for other in (None, (1,), (0,) * 3):
                self.fails(InvalidWord, lot_paper, WEAVE, value, other)
                self.fails(InvalidWord, is_lot_paper, WEAVE, value, other, ("lot",))
            for one in ((1,), ()):
                self.fails(InvalidWord, lot_paper, WEAVE, one, value)
                self.fails(InvalidWord, is_lot_paper, WEAVE, one, value, ("lot",))

    def test_words_that_are_no_beginnings(self):
        for one, other in (((1,), ()), ((), (1,)), ((1,), (1,)), ((0, 0), (1,)), ((0,), (0,) * 200)):
            self.fails(InvalidOperation, lot_paper, WEAVE, one, other)
            for value in (("lot",), None):
                self.fails(InvalidOperation, is_lot_paper, WEAVE, one, other, value)

    def test_wrong_lengths(self):
        for value in NO_NUMBERS + (9, LONG):
            self.fails_with(InvalidNumber, value, first_of(lots_to), WEAVE, value)
        for length in (0, 8):
            self.assertEqual(next(lots_to(WEAVE, length)), ((),))
        lots_to(None, None)
