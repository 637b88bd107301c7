"""[6.1] to [6.6]: which rooms are before others."""

from itertools import product

from roomlines.base.endless import compare
from roomlines.errors import InvalidMachine, InvalidNumber, UnknownName
from roomlines.mach.heights import all_heights
from roomlines.mach.least import least
from roomlines.mach.machines import machine_of, numbered
from roomlines.order import before as module
from roomlines.order.before import (are_mixed, does_keep_doors, is_before, is_mixed_paper, is_order, mixed_pairs,
                                    mixed_paper, order_of, relation)
from tests.checks import Checks, first_of
from tests.support import (ALL, EVEN, FORK, HOOK, KNOWN, LONG, NO_NUMBERS, NO_TUPLES, SPLIT, THIRDS, TWINS, WEAVE,
                           all_words, by_end, chain, doubled, plain_order, plain_room, random_machines, ring, shuffled,
                           turning_machines)
from tests.test_machines import NO_MACHINES

EXAMPLES = """
>>> [relation(FORK, 2, 4), relation(FORK, 3, 1), relation(FORK, 1, 1), relation(WEAVE, 0, 1), is_before(FORK, 4, 1), are_mixed(EVEN, 1, 0)]
['before', 'behind', 'same', 'mixed', True, True]
>>> [order_of(FORK) == order_of(FORK, road="doors"), order_of(FORK)[:5], order_of(WEAVE), list(mixed_pairs(EVEN)), list(mixed_pairs(FORK))]
[True, ((0, 1), (0, 2), (0, 3), (0, 4), (1, 3)), (), [(0, 1)], []]
>>> [mixed_paper(FORK, 0, 3), is_mixed_paper(WEAVE, 0, 1, ("mixed", (), (0,), (0, 1))), is_mixed_paper(WEAVE, 0, 1, ("mixed", (), (0, 1), (0,))), is_mixed_paper(FORK, 2, 4, ("behind",))]
[('before',), True, False, False]
>>> [does_keep_doors(FORK, ((0, 1),)), does_keep_doors(FORK, ((4, 2),)), does_keep_doors(WEAVE, ()), is_order(3, ((0, 1), (1, 2)))]
[True, False, True, False]
>>> order_of(FORK, road="words")
raises UnknownName('words')
"""
NAMES = {"ALL": ALL, "EVEN": EVEN, "WEAVE": WEAVE, "FORK": FORK}
LENGTHS = {1: 12, 2: 11, 3: 7, 4: 5}
DRAWN = (KNOWN + tuple(random_machines(61, 150)) + tuple(turning_machines(62, 40))
         + tuple(random_machines(63, 3, most_rooms=24)) + (chain(24, 4), ring(24), chain(24, 2, back=23)))
SMALL = tuple(machine for machine in DRAWN if machine.size <= 5)
WRONG_VALUES = NO_TUPLES + ((), ("",), ("mixed",), ("Before",), (True,), (None,), (1,), ("before", ()), (("before",),),
                            ("mixed", (), (), ()), ("mixed", None, None, None), ("mixed", (), (0,)))


def ends_of_rooms(machine):
    """For each room the least and the greatest word to it, of all words to some length; None if there is none."""
    told = [[] for _ in range(machine.size)]
    for word in by_end(all_words(machine.letters, LENGTHS[machine.letters])):
        room = plain_room(machine, word)
        if room is not None:
            told[room].append(word)
    return [(words[0], words[-1]) if words else None for words in told]


def plain_pairs(machine, lot):
    """Whether a lot of pairs keeps doors, as [6.3] tells it."""
    marks = [{letter for letter, _ in machine.ways_in(room)} for room in range(machine.size)]
    marks[0].add(-1)
    for one, other in lot:
        if max(marks[one]) > min(marks[other]):
            return False
        for (letter, from_one), (further, from_other) in product(machine.ways_in(one), machine.ways_in(other)):
            if letter == further and (from_one, from_other) not in lot:
                return False
    return True


def plain_is_order(lot):
    """Whether a set of pairs has no pair of one room, and all that follow."""
    return all(one != other for one, other in lot) and all(
        (one, third) in lot for one, other in lot for again, third in lot if other == again)


class RelationTests(Checks):

    def test_examples(self):
        self.examples(EXAMPLES, {**vars(module), **NAMES})

    def test_constants(self):
        self.assertEqual((module.RELATIONS, module.ROADS),
                         (("before", "behind", "mixed", "same"), ("heights", "doors")))

    def test_by_heights(self):
        opposite = {"before": "behind", "behind": "before", "mixed": "mixed", "same": "same"}
        for machine in DRAWN:
            told = all_heights(machine)
            for one, other in product(range(machine.size), repeat=2):
                found = relation(machine, one, other) if machine.size < 9 or (one + other) % 7 == 0 else None
                if found is None:
                    continue
                self.assertIn(found, module.RELATIONS)
                self.assertEqual(found == "same", one == other)
                self.assertEqual(relation(machine, other, one), opposite[found])
                self.assertIs(is_before(machine, one, other), found == "before")
                self.assertIs(are_mixed(machine, one, other), found == "mixed")
                if one != other:
                    self.assertEqual(found == "before",
                                     compare(machine.letters, told[one][1], told[other][0]) <= 0)
                    self.assertFalse(other == 0 and found == "before")

    def test_by_all_words(self):
        for machine in SMALL:
            found = ends_of_rooms(machine)
            for one, other in product(range(machine.size), repeat=2):
                if one == other or found[one] is None or found[other] is None:
                    continue
                crossing = plain_order(found[one][1], found[other][0]) > 0
                told = relation(machine, one, other)
                if crossing:
                    self.assertNotEqual(told, "before")
                elif machine.letters <= 2 and machine.size <= 3:
                    self.assertEqual(told, "before")

    def test_equal_heights_of_two_rooms(self):
        many = 0
        for machine in DRAWN:
            told = all_heights(machine)
            for one, other in product(range(machine.size), repeat=2):
                if one != other and compare(machine.letters, told[one][1], told[other][0]) == 0:
                    many += 1
                    self.assertIs(is_before(machine, one, other), True)
                    self.assertNotIsInstance(told[one][1], tuple)
        self.assertGreater(many, 5)

    def test_other_sequences_and_returned_machines(self):
        for at, machine in enumerate(SMALL):
            for told in (shuffled(machine, at), numbered(machine), least(machine), doubled(machine, at % machine.size)):
                lot = order_of(told)
                self.assertEqual(lot, order_of(told, road="doors"))
                for one, other in product(range(told.size), repeat=2):
                    self.assertIs(is_before(told, one, other), (one, other) in lot)
            self.assertEqual(len(order_of(shuffled(machine, at))), len(order_of(machine)))

    def test_what_is_not_true(self):
        self.assertEqual((WEAVE.ways_in(0), WEAVE.ways_in(1), are_mixed(WEAVE, 0, 1)), (((1, 1),), ((0, 0),), True))
        self.assertEqual((FORK.ways_in(4), FORK.ways_in(2)), (((0, 3),), ((0, 1),)))
        self.assertEqual((is_order(5, ((4, 2),)), does_keep_doors(FORK, ((4, 2),))), (True, False))
        self.assertIs(does_keep_doors(FORK, ((3, 1), (4, 2))), False)


class OrderTests(Checks):

    def test_both_roads(self):
        for machine in DRAWN:
            told = order_of(machine)
            self.assertEqual(told, order_of(machine, road="doors"))
            self.assertEqual(told, order_of(machine, road="heights"))
            self.assertEqual(list(told), sorted(set(told)))
            self.assertTrue(plain_is_order(set(told)) if machine.size < 9 else True)
            self.assertIs(is_order(machine.size, told), True)
            self.assertIs(does_keep_doors(machine, told), True)
            self.assertTrue(plain_pairs(machine, set(told)))

    def test_the_greatest_lot_that_keeps_doors(self):
        for machine in SMALL:
            if machine.size > 3:
                continue
            told = set(order_of(machine))
            pairs = [pair for pair in product(range(machine.size), repeat=2) if pair[0] != pair[1]]
            for chosen in product((False, True), repeat=len(pairs)):
                lot = {pair for pair, taken in zip(pairs, chosen) if taken}
                keeps = plain_pairs(machine, lot)
                self.assertIs(does_keep_doors(machine, tuple(sorted(lot))), keeps and plain_is_order(lot))
                if keeps:
                    self.assertLessEqual(lot, told)

    def test_known_orders(self):
        line = (0, 2, 4, 1, 3)
        told = tuple(sorted((line[at], line[to]) for at in range(5) for to in range(at + 1, 5)))
        self.assertEqual(order_of(FORK), told)
        self.assertEqual([order_of(machine) for machine in (ALL, EVEN, WEAVE, THIRDS)], [()] * 4)
        self.assertEqual((order_of(HOOK), order_of(SPLIT)), (((0, 1), (0, 2)), ((0, 1), (0, 2), (1, 2))))
        self.assertEqual(len(order_of(chain(24, 1))), 24 * 23 // 2)
        self.assertEqual(len(order_of(ring(24))), 0)

    def test_mixed_pairs(self):
        turned = tuple(shuffled(FORK, seed) for seed in range(20))
        for machine in DRAWN + turned:
            lot = order_of(machine)
            told = [(one, other) for one in range(machine.size) for other in range(one + 1, machine.size)
                    if (one, other) not in lot and (other, one) not in lot]
            self.assertEqual(list(mixed_pairs(machine)), told)
        self.assertEqual([list(mixed_pairs(machine)) for machine in turned], [[]] * 20)
        self.assertEqual(list(mixed_pairs(THIRDS)), [(0, 1), (0, 2), (1, 2)])

    def test_part_of_an_order(self):
        for machine in SMALL:
            told = order_of(machine)
            for at in range(len(told)):
                lot = set(told[:at] + told[at + 1:])
                self.assertIs(does_keep_doors(machine, tuple(sorted(lot))),
                              plain_is_order(lot) and plain_pairs(machine, lot))
            self.assertIs(does_keep_doors(machine, ()), True)

    def test_is_order(self):
        self.assertIs(is_order(1, ()), True)
        self.assertIs(is_order(3, ((0, 1), (0, 2), (1, 2))), True)
        self.assertIs(is_order(3, ((2, 0), (2, 1))), True)
        for chosen in product((False, True), repeat=12):
            pairs = [pair for pair in product(range(4), repeat=2) if pair[0] != pair[1]]
            lot = [pair for pair, taken in zip(pairs, chosen) if taken]
            self.assertIs(is_order(4, tuple(lot)), plain_is_order(set(lot)))
        whole = tuple((one, other) for one in range(400) for other in range(one + 1, 400))
        self.assertIs(is_order(400, whole), True)
        self.assertIs(is_order(400, whole[:399] + whole[400:]), True)
        self.assertIs(is_order(400, whole[:200] + whole[201:]), False)
        self.assertIs(is_order(399, whole), False)

    def test_wrong_sizes(self):
        for given in NO_NUMBERS + (0, 401, LONG):
            self.fails_with(InvalidNumber, given, is_order, given, ())
            self.fails_with(InvalidNumber, given, is_order, given, None)

    def test_wrong_orders(self):
        for value in NO_TUPLES + (((0, 0),), ((0, 1), (0, 1)), ((1, 0), (0, 2)), ((0, 2), (0, 1)), ((0, 1), (1, 0)),
                                  ((0, 1, 2),), ((0,),), ((),), (0, 1), ([0, 1],), ((0, True),), ((False, 1),),
                                  ((0, 3),), ((-1, 0),), ((0, None),), ((0, "1"),), ("01",), ((0, (1,)),), (None,),
                                  ((0, 10 ** 60),), ((0, 1), (1, 2)), ((0, 1), [0, 2]), ((0, ALL),)):
            self.assertIs(is_order(3, value), False)
            self.assertIs(does_keep_doors(SPLIT, value), False)

    def test_wrong_roads_and_machines(self):
        for given in ("words", "", "Doors", "low", True, None, 0, (), ("doors",), ["doors"], {}, ALL):
            self.fails_with(UnknownName, given, order_of, FORK, road=given)
        for value in NO_MACHINES:
            self.fails(InvalidMachine, order_of, value, road="words")
            self.fails(InvalidMachine, first_of(mixed_pairs), value)
            self.fails(InvalidMachine, does_keep_doors, value, ())
            for call in (relation, is_before, are_mixed, mixed_paper):
                self.fails(InvalidMachine, call, value, None, None)
            self.fails(InvalidMachine, is_mixed_paper, value, None, None, ())
        self.fails(TypeError, lambda: order_of(FORK, "doors"))

    def test_wrong_rooms(self):
        for given in NO_NUMBERS + (5, LONG):
            for call in (relation, is_before, are_mixed, mixed_paper):
                self.fails_with(InvalidNumber, given, call, FORK, given, None)
                self.fails_with(InvalidNumber, given, call, FORK, 4, given)
            self.fails_with(InvalidNumber, given, is_mixed_paper, FORK, given, None, ())
            self.fails_with(InvalidNumber, given, is_mixed_paper, FORK, 4, given, ("same",))


class PaperTests(Checks):

    def test_papers_are_right(self):
        for machine in DRAWN:
            for one, other in product(range(machine.size), repeat=2):
                if machine.size > 8 and (one + 3 * other) % 11:
                    continue
                told, found = mixed_paper(machine, one, other), relation(machine, one, other)
                self.assertIs(is_mixed_paper(machine, one, other, told), True)
                if found != "mixed":
                    self.assertEqual(told, (found,))
                    continue
                self.assertEqual((told[0], len(told)), ("mixed", 4))
                words = told[1:]
                self.assertLessEqual(max(map(len, words)), 1000)
                self.assertTrue(plain_order(words[0], words[1]) < 0 and plain_order(words[1], words[2]) < 0)
                self.assertIn([plain_room(machine, word) for word in words], ([one, other, one], [other, one, other]))

    def test_all_triples(self):
        for machine in (WEAVE, EVEN, HOOK, FORK, SPLIT):
            words = by_end(all_words(machine.letters, 2))
            for one, other in product(range(machine.size), repeat=2):
                for told in product(words, repeat=3):
                    rooms = [plain_room(machine, word) for word in told]
                    right = (one != other and rooms in ([one, other, one], [other, one, other])
                             and words.index(told[0]) < words.index(told[1]) < words.index(told[2]))
                    self.assertIs(is_mixed_paper(machine, one, other, ("mixed",) + told), right)
                for word in module.RELATIONS:
                    right = word != "mixed" and word == relation(machine, one, other)
                    self.assertIs(is_mixed_paper(machine, one, other, (word,)), right)

    def test_longest_words(self):
        weave = (0, 1) * 1000
        self.assertIs(is_mixed_paper(WEAVE, 0, 1, ("mixed", (), (0,), weave)), True)
        self.assertIs(is_mixed_paper(WEAVE, 1, 0, ("mixed", (), (0,), weave)), True)
        self.assertIs(is_mixed_paper(WEAVE, 0, 1, ("mixed", (), (0,), weave + (0, 1))), False)
        for many, right in ((1999, True), (2000, True), (2001, False)):
            long = (0, 0) + (1,) * (many - 2)
            self.assertIs(is_mixed_paper(EVEN, 0, 1, ("mixed", (), (0,), long)), right)
            self.assertIs(is_mixed_paper(EVEN, 0, 1, ("mixed", (1,), (0, 1), long)), right)

    def test_other_values(self):
        for one, other in product(range(2), repeat=2):
            for value in WRONG_VALUES:
                self.assertIs(is_mixed_paper(WEAVE, one, other, value), False)
        right = ("mixed", (), (0,), (0, 1))
        self.assertIs(is_mixed_paper(WEAVE, 0, 1, right), True)
        for value in (list(right), right[:3], right + ((),), ("mixed", (), (0,), [0, 1]), ("mixed", (), (False,), (0, 1)),
                      ("mixed", (), (0,), (0, True)), ("mixed", (), (0,), (0, 2)), ("mixed", None, (0,), (0, 1)),
                      ("mixed", (), (0,), "01"), (True, (), (0,), (0, 1)), ("same", (), (0,), (0, 1)),
                      ("mixed", ((), (0,), (0, 1))), ("mixed", (0, 1), (0,), ()), ("mixed", (), (0,), (1,)),
                      ("mixed", (), (0,), (0, 10 ** 60)), (ALL, (), (0,), (0, 1)), ("mixed", (), (0,), ALL)):
            self.assertIs(is_mixed_paper(WEAVE, 0, 1, value), False)
        self.assertIs(is_mixed_paper(TWINS, 1, 1, ("same",)), True)
        self.assertIs(is_mixed_paper(EVEN, 0, 0, ("mixed", (), (1,), (1, 1))), False)
        self.assertIs(is_mixed_paper(FORK, 2, 4, ("before",)), True)
        self.assertIs(is_mixed_paper(FORK, 4, 2, ("behind",)), True)

    def test_papers_of_many_rooms(self):
        wide = machine_of(1, tuple(((room + 1) % 400,) for room in range(400)), (0,))
        told = mixed_paper(wide, 3, 301)
        self.assertIs(is_mixed_paper(wide, 3, 301, told), True)
        self.assertLessEqual(max(map(len, told[1:])), 1000)
        self.assertEqual(order_of(wide), ())
