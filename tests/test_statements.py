"""[0.2], [0.4] and [0.16] to [0.21]: what holds for the whole program."""

from itertools import combinations, permutations, product

from roomlines import errors
from roomlines.base.endless import Endless
from roomlines.deeds.counts import between, counted, counted_ending, nth_word, place_of
from roomlines.deeds.languages import after, ended_by, less, meet, put_ahead, union_of, with_words, without_words
from roomlines.deeds.turns import best_order, each_turned, order_lines, turned_rooms, with_order
from roomlines.desk.shelf import Shelf
from roomlines.errors import Refused, TooMany
from roomlines.find.endings import Index, rooms_behind
from roomlines.find.rows import of_rows, rows_of
from roomlines.mach.heights import does_span
from roomlines.mach.least import are_alike, futures, least
from roomlines.mach.machines import Machine, machine_of, numbered
from roomlines.order.before import are_mixed, mixed_pairs, relation
from roomlines.order.lines import are_fewest_lines, are_lines, is_side_by_side, line_number, lines, side_by_side
from roomlines.order.readers import Reader, line_order, set_bound, sets_of
from roomlines.ring.entangled import are_entangled, entangled_number, entangled_rooms, entangled_tuples
from roomlines.text.texts import is_written, read_machine, read_reader, write_machine, write_reader
from roomlines.unfold.fewest import (fewest_fold, fewest_lines, fewest_machine, fewest_paper, is_fewest_machine,
                                     is_fewest_paper, thinned)
from roomlines.unfold.single import (has_one_line, is_single_machine, lot_paper, lots_to, single_machine,
                                     single_number)
from roomlines.unfold.unfolded import each_unfolded, folded_lines, unfolded
from tests.checks import Checks
from tests.support import (ALL, EVEN, FORK, KNOWN, WEAVE, all_words, chain, doubled, lined_readers, lots_of,
                           plain_room, random_machines, random_readers, ring, shuffled, turning_machines)
from tests.test_languages import LONGER, SHORT
from tests.test_turns import MOST
from tests.test_unfolded import TWICE

DRAWN = (tuple(machine for machine in KNOWN if machine.size < 7) + (SHORT, LONGER, MOST, TWICE, ring(6), chain(6, 2))
         + tuple(random_machines(211, 60)) + tuple(turning_machines(212, 15, most_rooms=6))
         + tuple(random_machines(213, 40, most_rooms=4, most_letters=2)))
READERS = tuple(random_readers(214, 80)) + tuple(lined_readers(215, 40))
LENGTHS = {1: 8, 2: 6, 3: 4, 4: 3}


def rooms_by_end(machine):
    """The rooms that words of at most some letters lead to, in the order of these words."""
    words = sorted(all_words(machine.letters, LENGTHS[machine.letters] + 1), key=lambda word: word[::-1])
    return [(word, plain_room(machine, word)) for word in words if plain_room(machine, word) is not None]


class StatementTests(Checks):

    def test_lines(self):
        # [0.16]: all choices and all sets of rooms that are mixed two by two.
        for machine in DRAWN:
            mixed = [rooms for rooms in lots_of(machine.size)
                     if all(are_mixed(machine, *pair) for pair in combinations(rooms, 2))]
            most = max(map(len, mixed))
            self.assertEqual((line_number(machine), len(lines(machine)), len(side_by_side(machine))), (most,) * 3)
            self.assertIs(are_fewest_lines(machine, lines(machine)), True)
            self.assertIs(is_side_by_side(machine, side_by_side(machine)), True)
            self.assertEqual(of_rows(machine.letters, rows_of(machine, lines(machine)))[0].size, machine.size)
            self.assertEqual(len(list(mixed_pairs(machine))) > 0, most > 1)
            # Words to one room and words to a room behind it do not alternate.
            told = rooms_by_end(machine)
            for line in lines(machine):
                place = [line.index(room) for _, room in told if room in line]
                self.assertEqual(place, sorted(place))

    def test_ends(self):
        # [0.17]: stretches of each line, also of choices with more lines than the fewest.
        for machine in DRAWN:
            choices = {lines(machine), tuple((room,) for room in range(machine.size))}
            for choice in choices:
                self.assertIs(are_lines(machine, choice), True)
                index = Index(machine, choice)
                for word in all_words(machine.letters, 3):
                    rooms = rooms_behind(machine, word)
                    stretches = index(word)
                    found = [room for line, (start, stop) in zip(choice, stretches) for room in line[start:stop]]
                    self.assertEqual(tuple(sorted(found)), rooms)
            for word, room in rooms_by_end(machine)[::5]:
                self.assertIs(does_span(machine, room, word), True)

    def test_fewest_lines(self):
        # [0.18]
        reached = 0
        for at, machine in enumerate(DRAWN):
            small = least(machine)
            number = fewest_lines(machine)
            self.assertEqual(number, entangled_number(small))
            self.assertEqual(number, max([1] + [len(rooms) for rooms in entangled_tuples(small)]))
            others = [machine, small, doubled(machine, at % machine.size), thinned(machine)]
            others.extend([told for told in each_unfolded(small) if told.size < 120])
            for other in others:
                self.assertLessEqual(number, line_number(other))
            try:
                many = fewest_fold(machine)
            except TooMany:
                continue
            reached += 1
            self.assertEqual(folded_lines(small, many)[-1], number)
            self.assertTrue(many == 0 or folded_lines(small, many - 1)[-1] > number)
            self.assertIs(is_fewest_machine(machine, fewest_machine(machine)), True)
            self.assertIs(is_fewest_paper(machine, fewest_paper(machine)), True)
        self.assertGreater(reached, len(DRAWN) - 5)

    def test_one_line(self):
        # [0.19]
        found = {True: 0, False: 0}
        for machine in DRAWN:
            number = None
            try:
                number = single_number(machine)
            except TooMany:
                continue
            self.assertEqual((number is not None, fewest_lines(machine) == 1), (has_one_line(machine),) * 2)
            found[number is not None] += 1
            if number is None:
                # Words to entangled rooms have unlike futures, and stand between one another.
                rooms = entangled_rooms(least(machine))
                self.assertEqual(len({futures(least(machine))[room] for room in rooms}), len(rooms))
                continue
            made = single_machine(machine)
            self.assertEqual((made.size, line_number(made), are_alike(made, machine)), (number, 1, True))
            words = [word for word, _ in rooms_by_end(machine)][::4][:14]
            for one, other in product(words, repeat=2):
                same = plain_room(made, one) == plain_room(made, other)
                self.assertEqual(lot_paper(machine, one, other) == ("lot",), same)
            for told in lots_to(machine, 3):
                self.assertEqual(len({futures(machine)[plain_room(machine, word)] for word in told}), 1)
            for other in [told for told in each_unfolded(machine) if told.size < 80 and line_number(told) == 1]:
                self.assertGreaterEqual(other.size, number)
                self.assertEqual(is_single_machine(machine, other), other.size == number)
        self.assertGreater(min(found.values()), 30)

    def test_readers(self):
        # [0.20]
        lined = 0
        for reader in READERS:
            order = line_order(reader)
            if order is None:
                continue
            lined += 1
            told, sets = sets_of(reader)
            self.assertLessEqual(len(sets), set_bound(reader.size, 1))
            self.assertEqual((len(sets), line_number(told), fewest_lines(told) if least(told).size < 7 else 1), (told.size, 1, 1))
            for word in all_words(reader.letters, 3):
                self.assertIs(told(word), reader(word))
            for rooms in sets:
                places = sorted(order.index(room) for room in rooms)
                self.assertEqual(places, list(range(places[0], places[-1] + 1)))
        self.assertGreater(lined, 30)

    def test_what_is_not_true(self):
        # [0.21]
        self.assertEqual((line_number(least(WEAVE)), fewest_lines(WEAVE)), (2, 1))
        self.assertEqual((are_mixed(WEAVE, 0, 1), are_entangled(WEAVE, (0, 1))), (True, False))
        self.assertEqual([has_one_line(told) for told in (SHORT, LONGER, union_of(SHORT, LONGER))], [True, True, False])
        self.assertEqual((has_one_line(FORK), has_one_line(after(FORK, (1,)))), (True, False))
        self.assertEqual([line_number(with_order(MOST, order)) for order in permutations((0, 1))], [2, 1])
        self.assertEqual((order_lines(MOST), best_order(MOST)), ({(0, 1): 2, (1, 0): 1}, (1, 0)))


class WholeTests(Checks):

    def test_machines_through_all_modules(self):
        for at, machine in enumerate(DRAWN):
            other = DRAWN[at - 1] if DRAWN[at - 1].letters == machine.letters else least(machine)
            made = [union_of(machine, other), put_ahead(machine, (0,)), unfolded(machine, 1), thinned(machine)]
            for call in (lambda: meet(machine, other), lambda: less(machine, other), lambda: ended_by(machine, (0,)),
                         lambda: after(machine, (0,)), lambda: with_words(machine, ((0, 0),)),
                         lambda: without_words(machine, ((0, 0),)), lambda: single_machine(machine)):
                try:
                    made.append(call())
                except (Refused, TooMany):
                    pass
            for told in made:
                self.assertEqual(told, machine_of(told.letters, told.doors, told.good))
                if told.size < 25:
                    self.assertEqual(Machine(told.letters, told.doors, told.good), told)
                    self.assertEqual(read_machine(write_machine(told)), told)
                    self.assertIs(is_written(write_machine(told)), True)
                self.assertEqual((least(numbered(told)), least(unfolded(told, 0))), (least(told),) * 2)
                self.assertLessEqual(len(lines(least(told))), max(1, least(told).size))
                for length in (0, 3):
                    number = counted(told, length)
                    self.assertEqual(number, sum(counted_ending(told, (letter,), length) for letter in range(told.letters))
                                     if length else int(told(())))
                    if number:
                        last = nth_word(told, length, number - 1)
                        self.assertEqual((told(last), place_of(told, last)), (True, number - 1))
                if told.size > 1 and told.size < 25:
                    self.assertIs(are_alike(shuffled(told, at), told), True)

    def test_readers_as_texts(self):
        for reader in READERS:
            self.assertEqual(read_reader(write_reader(reader)), reader)
        for machine in DRAWN:
            reader = Reader.of_machine(machine)
            self.assertEqual(read_reader(write_reader(reader)), reader)
            self.assertEqual(least(sets_of(reader)[0]), least(machine))

    def test_turned_rooms_are_entangled(self):
        for machine in DRAWN:
            small = least(machine)
            for rooms, word in each_turned(small):
                self.assertIs(are_entangled(small, tuple(sorted(rooms))), True)
                self.assertLessEqual(len(rooms), fewest_lines(machine))
                self.assertEqual(turned_rooms(small, len(rooms)), (rooms, word))

    def test_shelves_through_all_modules(self):
        for machine in DRAWN[::4]:
            words = [word for word in all_words(machine.letters, 4) if machine(word)][:12]
            if not words:
                continue
            shelf = Shelf(machine.letters)
            shelf.put_all(*words)
            told = shelf.machine()
            self.assertEqual((fewest_lines(told) if least(told).size < 7 else 1, line_number(told)), (1, 1))
            self.assertEqual(meet(told, machine), least(told))
            self.assertEqual(least(union_of(told, machine)), least(machine))
            for length in range(5):
                right = [word for word in shelf if len(word) == length]
                self.assertEqual([nth_word(told, length, at) for at in range(counted(told, length))], right)
                if len(right) > 2:
                    self.assertEqual(list(between(told, right[0], right[-1])), right[1:-1])

    def test_equal_calls_return_equal_results(self):
        for machine in DRAWN[::5]:
            copy = Machine(machine.letters, machine.doors, machine.good)
            before = (machine.letters, machine.doors, machine.good)
            for call in (least, futures, lines, line_number, fewest_lines, order_lines, thinned, entangled_rooms,
                         write_machine, lambda told: list(entangled_tuples(told)), lambda told: list(each_turned(told)),
                         lambda told: list(lots_to(told, 3)), lambda told: union_of(told, ALL if told.letters == 2 else told)):
                self.assertEqual(call(machine), call(copy))
                self.assertEqual(call(machine), call(machine))
            self.assertEqual((machine.letters, machine.doors, machine.good), before)
            self.assertEqual(relation(machine, 0, machine.size - 1), relation(copy, 0, machine.size - 1))

    def test_what_can_be_iterated_over(self):
        shelf = Shelf(2)
        shelf.put((0,))
        reader = Reader.of_machine(FORK)
        index = Index(FORK, lines(FORK))
        self.assertEqual(list(shelf), [(0,)])
        for value in (FORK, reader, index, Endless(2, (0, 1), tail=(1,))):
            self.fails(TypeError, iter, value)
            self.fails(TypeError, list, value)
        values = (FORK, reader, index, Endless(2, (0,)), shelf)
        for one, other in product(values, repeat=2):
            self.assertEqual((one == other, one != other), (one is other, one is not other))
            self.fails(TypeError, lambda: one + other)
        for one in values:
            for other in (None, True, 0, "", (), [], {}):
                self.assertEqual((one == other, one != other), (False, True))
                self.fails(TypeError, lambda: one - other)
                self.fails(TypeError, lambda: other + one)

    def test_errors(self):
        told = [getattr(errors, name) for name in """InvalidWord InvalidHeight InvalidMachine InvalidReader InvalidRooms
            InvalidLines InvalidOrder InvalidOperation InvalidName ParseError""".split()]
        self.assertTrue(all(error.__bases__ == (errors.RoomError,) for error in told))
        self.assertEqual(fewest_lines(EVEN), 2)
