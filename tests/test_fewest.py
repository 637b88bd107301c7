"""[14.1] to [14.5]: the fewest lines of a language."""

from itertools import combinations, product

from roomlines.errors import InvalidMachine, Refused, TooMany
from roomlines.mach.least import are_alike, futures, least
from roomlines.mach.machines import Machine, machine_of, numbered
from roomlines.order.lines import are_lines, line_number, lines
from roomlines.ring.entangled import (are_entangled, entangled_number, entangled_paper, entangled_rooms,
                                      is_entangled_paper)
from roomlines.ring.tuples import round_tuples
from roomlines.unfold import fewest as module
from roomlines.unfold.fewest import (fewest_fold, fewest_lines, fewest_machine, fewest_paper, is_fewest_machine,
                                     is_fewest_paper, thinned)
from roomlines.unfold.unfolded import each_unfolded, joined_rooms, unfolded
from tests.checks import Checks
from tests.support import (ALL, EMPTY_WORD, EVEN, FORK, KNOWN, NO_TUPLES, THIRDS, TWINS, WEAVE, all_words, chain,
                           doubled, lots_of, plain_room, random_machines, ring, shuffled, turning_machines)
from tests.test_lines import NO_MACHINES
from tests.test_unfolded import TWICE, alike_pairs

EXAMPLES = """
>>> TWICE = Machine(2, ((None, 1), (2, None), (0, 0)), (0,))
>>> [fewest_lines(ALL), fewest_lines(EVEN), fewest_lines(WEAVE), fewest_lines(FORK), fewest_lines(TWICE)]
[1, 2, 1, 1, 1]
>>> [fewest_fold(EVEN), fewest_fold(WEAVE), fewest_fold(TWICE), fewest_machine(TWICE).size, fewest_machine(EVEN) == EVEN]
[0, 1, 2, 7, True]
>>> THREE = Machine(2, ((1, None), (None, 2), (1, None)), (0, 2))
>>> [fewest_machine(WEAVE) == THREE, is_fewest_machine(WEAVE, THREE), is_fewest_machine(WEAVE, WEAVE), thinned(THREE) == THREE]
[True, True, False, True]
>>> [is_fewest_paper(WEAVE, (THREE, ((0, 1, 2),), (), None)), is_fewest_paper(EVEN, (EVEN, ((0,), (1,)), (0, 1), ("ring", (1,), "below", ((), (0,)))))]
[True, True]
>>> fewest_lines(Machine(1, ((1,), (2,), (3,), (4,), (5,), (6,), (0,)), (0,)))
raises TooMany(6)
"""
NAMES = {"ALL": ALL, "EVEN": EVEN, "WEAVE": WEAVE, "FORK": FORK, "Machine": Machine}
THREE = Machine(2, ((1, None), (None, 2), (1, None)), (0, 2))
# Least machines, by the number of last letters that they want and the fewest lines.
BY_FOLD = {(0, 1): FORK, (0, 2): EVEN, (0, 6): Machine(2, ((None, 1), (2, 3), (3, 4), (5, 2), (1, 0), (4, 5)), (1,)),
           (1, 2): Machine(2, ((1, 1), (2, 1), (2, 0)), (2,)), (2, 1): TWICE,
           (3, 2): Machine(2, ((1, 1), (2, 0), (3, 0), (3, 2)), (0,)),
           (4, 3): Machine(2, ((1, 2), (3, 3), (2, 0), (4, 2), (5, 4), (None, 4)), (0, 3, 4, 5)),
           (5, 1): Machine(2, ((0, 1), (2, 3), (3, 2), (0, None)), (3,)),
           (6, 2): Machine(2, ((1, None), (0, 2), (3, 0), (4, 1), (None, 3)), (3,)),
           (7, 1): Machine(2, ((1, 2), (None, 0), (3, 3), (1, 4), (None, 4)), (0, 1, 3, 4)),
           (8, 1): Machine(2, ((1, 0), (None, 2), (None, 3), (4, 4), (2, None)), (3, 4))}
WANTS_9 = Machine(2, ((1, 2), (2, 1), (None, 3), (0, 4), (4, None)), (0, 4))
WANTS_ROOMS = (Machine(3, ((None, 0, 1), (2, None, 1), (0, 1, 3), (None, 4, None), (2, 2, 2)), (3,)),
               Machine(2, ((1, 2), (3, 3), (2, 2), (4, 4), (None, 5), (4, 0)), (0, 1, 2, 4)))
DRAWN = (tuple(machine for machine in KNOWN if machine.size < 7) + (TWICE, THREE) + tuple(BY_FOLD.values())
         + tuple(random_machines(141, 90)) + tuple(turning_machines(142, 15))
         + tuple(random_machines(143, 60, most_rooms=4, most_letters=2)))
LONG_CALLS = (fewest_fold, fewest_machine, fewest_paper)


def few(machine):
    """The machine returned by a call for a machine that has one, None for TooMany behind all other errors."""
    try:
        return fewest_machine(machine)
    except TooMany as error:
        assert error.limit in (8, 400)
        return None


def alike_machines(machine, seed):
    """Some machines that are alike to a machine."""
    small = least(machine)
    yield from (machine, small, doubled(machine, seed % machine.size), thinned(machine))
    if machine.size > 1:
        yield shuffled(machine, seed)
    yield from [told for told in each_unfolded(machine) if told.size < 40][:3]


def all_machines(letters, rooms):
    """All machines with so many letters and rooms."""
    goals = (None,) + tuple(range(rooms))
    for doors in product(product(goals, repeat=letters), repeat=rooms):
        for good in lots_of(rooms):
            try:
                yield Machine(letters, doors, good)
            except Refused:
                pass


class FewestTests(Checks):

    def test_examples(self):
        self.examples(EXAMPLES, {**vars(module), **NAMES})

    def test_constants(self):
        self.assertEqual((module.MAX_LEAST, module.MAX_FOLD, module.MAX_UNFOLDED), (6, 8, 400))

    def test_entangled_rooms_of_least_machines(self):
        numbers = set()
        for at, machine in enumerate(DRAWN):
            small = least(machine)
            longest = [rooms for rooms in lots_of(small.size) if are_entangled(small, rooms)][-1]
            for told in alike_machines(machine, at):
                self.assertEqual(fewest_lines(told), len(longest))
                self.assertGreaterEqual(line_number(told), len(longest))
            numbers.add(len(longest))
        self.assertEqual(numbers, {1, 2, 3, 4, 5, 6})

    def test_no_machine_has_fewer_lines(self):
        found = {}
        for letters, rooms in ((1, 1), (1, 2), (1, 3), (1, 4), (2, 1), (2, 2), (2, 3), (3, 2)):
            for machine in all_machines(letters, rooms):
                small = least(machine)
                key = (small.letters, small.doors, small.good)
                found.setdefault(key, []).append(line_number(machine))
        equal = 0
        for key, told in found.items():
            number = fewest_lines(Machine(*key))
            self.assertLessEqual(number, min(told))
            equal += number == min(told)
        # Some of these languages want more rooms.
        self.assertTrue(equal > 600 and equal < len(found), (equal, len(found)))

    def test_entangled_rooms_have_lines_in_alike_machines(self):
        # [14.2]: a round of words leads to as many rooms that go round, with the futures of the entangled ones.
        for at, machine in enumerate(DRAWN):
            small = least(machine)
            rooms = entangled_rooms(small)
            for told in alike_machines(machine, at):
                if rooms and told.size < 7:
                    goes = futures(told)
                    near = [[goes[room] for room in tuple_of] for tuple_of in round_tuples(told, len(rooms))
                            if are_entangled(told, tuple_of)]
                    self.assertTrue(any(sorted(futured) == list(rooms) for futured in near))

    def test_one_line(self):
        for machine in DRAWN:
            small = least(machine)
            pairs = [pair for pair in combinations(range(small.size), 2) if are_entangled(small, pair)]
            self.assertIs(fewest_lines(machine) == 1, not pairs)
        for machine in (EMPTY_WORD, chain(5, 4), chain(6, 1), chain(4, 2, good=(0, 2, 3)), ALL, ring(5, good=(0, 1, 2, 3, 4))):
            self.assertEqual(fewest_lines(machine), 1)
        self.assertEqual((fewest_lines(THIRDS), fewest_lines(ring(6)), fewest_lines(ring(6, good=(0, 3)))), (3, 6, 3))

    def test_folds(self):
        for (many, number), machine in BY_FOLD.items():
            self.assertEqual((fewest_fold(machine), fewest_lines(machine)), (many, number))
            self.assertEqual(fewest_machine(machine), unfolded(least(machine), many))
        missing = 0
        for machine in DRAWN:
            small, number = least(machine), fewest_lines(machine)
            right = [many for many, told in enumerate(each_unfolded(small)) if line_number(told) == number]
            if right:
                self.assertEqual(fewest_fold(machine), right[0])
                self.assertEqual(fewest_machine(machine), unfolded(small, right[0]))
            else:
                missing += 1
                for call in LONG_CALLS:
                    limit = self.fails(TooMany, call, machine).limit
                    self.assertEqual(limit, 8 if len(list(each_unfolded(small))) == 9 else 400)
        self.assertLess(missing, 5)

    def test_languages_that_want_more(self):
        self.assertEqual((len(list(each_unfolded(WANTS_9))), fewest_lines(WANTS_9)), (9, 1))
        self.assertEqual([fewest_lines(machine) for machine in WANTS_ROOMS], [1, 2])
        for call in LONG_CALLS:
            self.fails_with(TooMany, 8, call, WANTS_9)
            for machine in WANTS_ROOMS:
                self.fails_with(TooMany, 400, call, machine)
                self.fails_with(TooMany, 400, call, doubled(machine, 1))
        self.assertIs(is_fewest_machine(WANTS_9, WANTS_9), False)
        self.assertIs(is_fewest_paper(WANTS_9, (WANTS_9, lines(WANTS_9), (), None)), False)
        self.assertIs(is_fewest_machine(WANTS_ROOMS[0], WANTS_ROOMS[0]), False)

    def test_fewest_machines(self):
        found = {True: 0, False: 0}
        for at, machine in enumerate(DRAWN):
            number = fewest_lines(machine)
            told = few(machine)
            if told is not None:
                self.assertIs(is_fewest_machine(machine, told), True)
                self.assertEqual((line_number(told), are_alike(told, machine)), (number, True))
                self.assertEqual((fewest_machine(told), fewest_lines(told)), (told, number))
            for other in alike_machines(machine, at):
                right = line_number(other) == number
                found[right] += 1
                self.assertIs(is_fewest_machine(machine, other), right)
                self.assertIs(is_fewest_machine(other, other), right)
            other = DRAWN[at - 1]
            if other.letters != machine.letters or not are_alike(other, machine):
                self.assertIs(is_fewest_machine(machine, other), False)
        self.assertTrue(found[True] > 300 and found[False] > 100, found)
        for value in NO_MACHINES + (None, True, (WEAVE,), THREE.doors, str(THREE)):
            self.assertIs(is_fewest_machine(WEAVE, value), False)
        self.assertIs(is_fewest_machine(WEAVE, machine_of(2, THREE.doors, THREE.good)), True)

    def test_what_is_not_true(self):
        self.assertEqual((least(WEAVE), line_number(WEAVE), fewest_lines(WEAVE)), (WEAVE, 2, 1))
        self.assertEqual([line_number(unfolded(TWICE, many)) for many in range(3)], [2, 2, 1])
        five = Machine(2, ((None, 1), (4, None), (3, 3), (None, 1), (2, 0)), (0, 2, 3))
        self.assertEqual(fewest_machine(TWICE).size, 7)
        small = [told for told in (thinned(unfolded(TWICE, 2)), five)
                 if told.size == 5 and are_alike(told, TWICE) and line_number(told) == 1]
        self.assertTrue(small)


class PaperTests(Checks):

    def test_papers(self):
        kinds = {}
        for machine in DRAWN:
            if few(machine) is None:
                continue
            told = fewest_paper(machine)
            self.assertIs(is_fewest_paper(machine, told), True)
            self.assertEqual((type(told), len(told)), (tuple, 4))
            found, choice, rooms, paper = told
            number, small = fewest_lines(machine), least(machine)
            self.assertEqual((are_alike(found, machine), are_lines(found, choice), len(choice)), (True, True, number))
            if number == 1:
                self.assertEqual((rooms, paper), ((), None))
            else:
                self.assertEqual((len(rooms), paper[0]), (number, "ring"))
                self.assertIs(is_entangled_paper(small, rooms, paper), True)
                self.assertLessEqual(max(map(len, paper[3] + (paper[1],))), 1000)
            kinds[number] = True
        self.assertEqual(sorted(kinds), [1, 2, 3, 4, 5, 6])

    def test_papers_of_others(self):
        shown = 0
        for at, machine in enumerate(DRAWN):
            small, number = least(machine), fewest_lines(machine)
            entangled = [rooms for rooms in lots_of(small.size) if len(rooms) > 1 and are_entangled(small, rooms)]
            for told in alike_machines(machine, at):
                choice = lines(told)
                right = len(choice) == number
                if number == 1:
                    self.assertIs(is_fewest_paper(machine, (told, choice, (), None)), right)
                for rooms in entangled[-3:]:
                    paper = entangled_paper(small, rooms)
                    self.assertIs(is_fewest_paper(machine, (told, choice, rooms, paper)), len(rooms) == len(choice))
                    self.assertIs(is_fewest_paper(machine, (told, choice, (), None)), len(choice) == 1)
                    shown += len(rooms) == len(choice)
        self.assertGreater(shown, 100)
        self.assertIs(is_fewest_paper(WEAVE, (WEAVE, ((0,), (1,)), (), None)), False)
        self.assertIs(is_fewest_paper(WEAVE, (WEAVE, ((0,), (1,)), (0, 1), ("still",))), False)
        # A choice of more lines than the fewest needs as many entangled rooms.
        self.assertIs(is_fewest_paper(FORK, (FORK, ((0, 2, 4, 1, 3),), (), None)), True)
        self.assertIs(is_fewest_paper(FORK, (FORK, ((0, 2, 4), (1, 3)), (), None)), False)
        self.assertIs(is_fewest_paper(FORK, (FORK, ((0, 2, 4), (1, 3)), (1, 3), entangled_paper(FORK, (1, 3)))), False)
        self.assertIs(is_fewest_paper(EVEN, (EVEN, ((1,), (0,)), (0, 1), ("ring", (1, 1), "below", ((), (0,))))), True)
        twice = unfolded(EVEN, 1)
        self.assertIs(is_fewest_paper(EVEN, (twice, lines(twice), (0, 1), ("ring", (0, 0), "above", ((1,), (0, 1))))), True)

    def test_papers_with_one_thing_wrong(self):
        paper = ("ring", (1,), "below", ((), (0,)))
        right = (EVEN, ((0,), (1,)), (0, 1), paper)
        self.assertIs(is_fewest_paper(EVEN, right), True)
        for value in NO_TUPLES + ((), right[:3], right + (None,), list(right), (right,), paper):
            self.assertIs(is_fewest_paper(EVEN, value), False)
        for value in NO_MACHINES + (ALL, WEAVE, FORK, ring(2), Machine(2, ((1, 0), (0, 1)), (1,)), EVEN.doors):
            self.assertIs(is_fewest_paper(EVEN, (value,) + right[1:]), False)
        for value in NO_TUPLES + ((), ((0, 1),), ((0,),), ((0,), (True,)), ((False,), (1,)), ((0,), [1]), [(0,), (1,)],
                                  ((0,), (1,), ()), ((0,), (1,), (1,)), (0, 1), ((0,), (2,)), ((0,), (1, 10 ** 60))):
            self.assertIs(is_fewest_paper(EVEN, right[:1] + (value,) + right[2:]), False)
        for value in NO_TUPLES + ((), (0,), (1, 0), (0, True), (False, 1), (0, 1, 2), (0, 2), ("0", "1"), ((0, 1),)):
            self.assertIs(is_fewest_paper(EVEN, right[:2] + (value,) + right[3:]), False)
        for value in NO_TUPLES + ((), ("ring",), ("still",), ("alone",), ("apart", 0, 1), list(paper), paper[:3],
                                  paper + (0,), ("Ring",) + paper[1:], ("ring", (True,)) + paper[2:],
                                  ("ring", (0,)) + paper[2:], ("ring", (1,), "above", ((), (0,))), (paper,),
                                  ("ring", (1,), "below", ((), (False,))), ("ring", (1,), "below", ((0,), ()))):
            self.assertIs(is_fewest_paper(EVEN, right[:3] + (value,)), False)
        right = (THREE, ((0, 1, 2),), (), None)
        self.assertIs(is_fewest_paper(WEAVE, right), True)
        for value in (None, False, 0, [], {}, "", (0,), (0, 1), (None,), ((),), WEAVE):
            self.assertIs(is_fewest_paper(WEAVE, right[:2] + (value, None)), False)
        for value in (False, True, 0, [], (), {}, "", ("alone",), ("still",), WEAVE):
            self.assertIs(is_fewest_paper(WEAVE, right[:3] + (value,)), False)

    def test_longest_words(self):
        for many, right in ((1999, True), (2000, True), (2001, False)):
            word = (0, 0) + (1,) * (many - 2)
            for paper in (("ring", (1,), "below", (word, (0,))), ("ring", (1,) * many, "below", ((), (0,))),
                          ("ring", (1,), "below", ((), word[1:] + (1,)))):
                self.assertIs(is_fewest_paper(EVEN, (EVEN, ((0,), (1,)), (0, 1), paper)), right)

    def test_entangled_rooms_stand_in_least_machines(self):
        # The rooms 1 and 2 have one future, so no others than those of the least machine show anything.
        twice = Machine(2, ((1, 0), (0, 2), (0, 1)), (0,))
        self.assertIs(are_alike(twice, EVEN), True)
        paper = entangled_paper(EVEN, (0, 1))
        self.assertIs(is_fewest_paper(twice, (EVEN, ((0,), (1,)), (0, 1), paper)), True)
        self.assertIs(is_fewest_paper(twice, (EVEN, ((0,), (1,)), (0, 2), entangled_paper(twice, (0, 2)))), False)
        turned = Machine(2, ((0, 2), (1, 0), (2, 1)), (0,))
        small = least(turned)
        self.assertNotEqual(turned, small)
        for told in (turned, small):
            rooms = entangled_rooms(small)
            self.assertIs(is_fewest_paper(turned, (told, lines(told), rooms, entangled_paper(small, rooms))), True)


def plain_thinned(machine):
    """The machine that is thinned, pair by pair."""
    present = machine
    while True:
        for one, other in alike_pairs(present):
            joined = joined_rooms(present, one, other)
            if line_number(joined) <= line_number(present):
                present = joined
                break
        else:
            return numbered(present)


class ThinnedTests(Checks):

    def test_thinned_machines(self):
        smaller = more = 0
        for at, machine in enumerate(DRAWN):
            for told in (machine, doubled(machine, at % machine.size), unfolded(machine, 1), unfolded(machine, 2)):
                if told.size > 24:
                    continue
                made = thinned(told)
                self.assertEqual(made, plain_thinned(told))
                self.assertIs(are_alike(made, machine), True)
                self.assertLessEqual(line_number(made), line_number(told))
                self.assertEqual((numbered(made), thinned(made)), (made, made))
                smaller += made.size < told.size
                more += made.size > least(machine).size
        self.assertTrue(smaller > 200 and more > 20, (smaller, more))
        self.assertEqual((thinned(TWINS), thinned(WEAVE), thinned(unfolded(ALL, 3))), (least(TWINS), WEAVE, ALL))
        for machine in DRAWN:
            small = least(machine)
            if small.size > 1:
                self.assertEqual(thinned(shuffled(small, 5)), small)

    def test_thinned_machines_keep_all_words(self):
        for machine in DRAWN[::4]:
            made = thinned(doubled(machine, 0))
            for word in all_words(machine.letters, 5 if machine.letters < 3 else 3):
                self.assertEqual(plain_room(made, word) in made.good, machine(word))

    def test_24_rooms_and_25(self):
        self.assertEqual(thinned(ring(24, good=(0, 6, 12, 18))), ring(6))
        self.assertEqual(thinned(ring(24, 2, good=tuple(range(24)))), ALL)
        large = machine_of(1, tuple(((room + 1) % 25,) for room in range(25)), (0, 5, 10, 15, 20))
        wide = machine_of(1, tuple(((room + 1) % 25,) for room in range(25)), (0,))
        for machine in (large, wide, unfolded(ALL, 4), unfolded(ring(24), 1)):
            self.fails_with(TooMany, 24, thinned, machine)
        self.assertEqual(unfolded(ALL, 4).size, 31)
        for machine in (ring(7), ring(24), chain(7, 2)):
            self.fails_with(TooMany, 6, thinned, machine)

    def test_lines_can_stay_more(self):
        more = 0
        for machine in DRAWN:
            made = thinned(machine)
            more += line_number(made) > fewest_lines(machine)
        self.assertGreater(more, 10)


class WrongTests(Checks):

    def test_six_rooms_and_seven(self):
        calls = (fewest_lines, fewest_fold, fewest_machine, fewest_paper, thinned)
        for machine in (ring(7), chain(7, 2), chain(24, 4), ring(14, good=(0, 7))):
            for call in calls:
                self.fails_with(TooMany, 6, call, machine)
            for call in (is_fewest_machine, is_fewest_paper):
                for value in (None, machine, (machine, lines(machine), (), None)):
                    self.fails_with(TooMany, 6, call, machine, value)
        large = machine_of(1, tuple(((room + 1) % 30,) for room in range(30)), (0, 6, 12, 18, 24))
        self.assertEqual([fewest_lines(machine) for machine in (ring(6), ring(12, good=(0, 6)), large)], [6, 6, 6])
        self.assertEqual((fewest_fold(large), fewest_machine(large)), (0, ring(6)))
        self.assertIs(is_fewest_machine(ring(6), large), False)
        self.assertIs(is_fewest_machine(large, ring(6)), True)
        self.assertEqual(fewest_paper(large), fewest_paper(ring(6)))
        self.assertEqual((fewest_lines(chain(6, 4)), entangled_number(chain(6, 4))), (1, 1))

    def test_wrong_machines(self):
        for value in NO_MACHINES:
            for call in (fewest_lines, fewest_fold, fewest_machine, fewest_paper, thinned):
                self.fails(InvalidMachine, call, value)
            for call in (is_fewest_machine, is_fewest_paper):
                self.fails(InvalidMachine, call, value, None)
                self.fails(InvalidMachine, call, value, EVEN)
