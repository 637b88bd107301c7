"""[10.1] to [10.6]: rows of lines."""

from itertools import product
from random import Random

from roomlines.errors import InvalidLines, InvalidMachine, InvalidNumber, Refused
from roomlines.find import rows as module
from roomlines.find.rows import is_rows, laid, of_rows, rows_of
from roomlines.mach.least import are_alike, least
from roomlines.mach.machines import Machine, are_renamed, machine_of
from roomlines.order.lines import are_lines, lines, one_line_order
from tests.checks import Checks
from tests.support import (ALL, EVEN, FORK, KNOWN, NO_TUPLES, TWINS, WEAVE, arrangements, chain, doubled, order_lot,
                           random_machines, ring, shuffled, turning_machines)
from tests.test_endings import choices
from tests.test_lines import NO_LINES, NO_MACHINES, WIDE
from tests.test_words import NO_LETTERS

EXAMPLES = """
>>> ENDS, SLOW, LINE = Machine(2, ((1, 2), (1, 2), (1, 2)), (2,)), Machine(2, ((0, 2), (0, 2), (1, 2)), (2,)), ((0, 1, 2),)
>>> BOTH = ((0, 0), (1, 0))
>>> rows_of(ENDS, LINE) == ((((0, BOTH, ()), (0, BOTH, ((0, 0, 3),)), (1, BOTH, ((1, 0, 3),))),), (0, 0))
True
>>> rows_of(SLOW, LINE) == ((((0, BOTH, ((0, 0, 2),)), (0, BOTH, ((0, 0, 1),)), (1, BOTH, ((1, 0, 3),))),), (0, 0))
True
>>> rows_of(EVEN, ((1,), (0,)))
((((0, ((0, 1), (1, 0)), ((0, 1, 1), (1, 0, 1))),), ((1, ((0, 0), (1, 1)), ((0, 0, 1), (1, 1, 1))),)), (1, 0))
>>> laid(FORK, ((0, 2, 4, 1, 3),)) == (Machine(3, ((None, 3, None), (None, None, 3), (None, None, 4), (1, None, 4), (2, None, None)), (2, 3)), ((0, 1, 2, 3, 4),))
True
>>> [of_rows(2, rows_of(SLOW, LINE)) == (SLOW, LINE), is_rows(2, rows_of(EVEN, ((1,), (0,)))), is_rows(2, ())]
[True, True, False]
>>> of_rows(1, ((((1, ((0, 0),), ()),),), (0, 0)))
raises Refused(('doors', 0, 0, 0))
>>> of_rows(2, ((((1, BOTH, ((0, 0, 1), (1, 0, 1))), (0, BOTH, ((0, 0, 1), (1, 0, 1)))),), (0, 0)))
raises Refused(('lost', 0, 1))
"""
NAMES = {"ALL": ALL, "EVEN": EVEN, "WEAVE": WEAVE, "FORK": FORK, "Machine": Machine}
ENDS = Machine(2, ((1, 2), (1, 2), (1, 2)), (2,))
SLOW = Machine(2, ((0, 2), (0, 2), (1, 2)), (2,))
SMALL = (KNOWN + (ENDS, SLOW) + tuple(random_machines(101, 120)) + tuple(turning_machines(102, 25))
         + tuple(random_machines(103, 60, most_rooms=4, most_letters=2)))
LARGE = (chain(24, 4), chain(24, 1), ring(24), chain(24, 2, back=23), WIDE) + tuple(random_machines(104, 4, most_rooms=24))
DRAWN = SMALL + LARGE
EVEN_ROWS = ((((0, ((0, 1), (1, 0)), ((0, 1, 1), (1, 0, 1))),), ((1, ((0, 0), (1, 1)), ((0, 0, 1), (1, 1, 1))),)),
             (1, 0))


def plain_rows(machine, choice):
    """The rows, as [10.1] tells them."""
    line_of = {room: at for at, line in enumerate(choice) for room in line}
    table = []
    for line in choice:
        marks = []
        for room in line:
            doors = [(letter, line_of[goal]) for letter, goal in enumerate(machine.doors[room]) if goal is not None]
            came = [(letter, line_of[source]) for letter, source in machine.ways_in(room)]
            ways = sorted({(letter, at, came.count((letter, at))) for letter, at in came})
            marks.append((int(room in machine.good), tuple(doors), tuple(ways)))
        table.append(tuple(marks))
    (start,) = [(at, line.index(0)) for at, line in enumerate(choice) if 0 in line]
    return tuple(table), start


def chain_rows(rooms):
    """The rows of a chain of so many rooms with one letter, in one line."""
    marks = [(0, ((0, 0),), ((0, 0, 1),)) for _ in range(rooms)]
    marks[0] = (0, ((0, 0),), ())
    marks[-1] = (1, (), ((0, 0, 1),))
    return (tuple(marks),), (0, 0)


def ring_rows(rooms):
    """The rows of a ring of so many rooms with one letter, each in a line of its own."""
    table = [((0, ((0, (room + 1) % rooms),), ((0, (room - 1) % rooms, 1),)),) for room in range(rooms)]
    table[3] = ((1,) + table[3][0][1:],)
    return tuple(table), (5, 0)


def plain_fault(letters, rows):
    """The reason with which right formed rows are refused, as of_rows tells them; None for rows of a machine."""
    table, start = rows
    spots = [(at, place) for at, line in enumerate(table) for place in range(len(line))]
    numbers = {start: 0}
    for spot in spots:
        numbers.setdefault(spot, len(numbers))
    doors = [[None] * letters for _ in spots]
    for letter, one, other in product(range(letters), range(len(table)), range(len(table))):
        sources = [(one, place) for place, mark in enumerate(table[one]) if (letter, other) in mark[1]]
        goals = [(other, place) for place, mark in enumerate(table[other]) for told in mark[2]
                 if told[:2] == (letter, one) for _ in range(told[2])]
        if len(sources) != len(goals):
            return "doors", letter, one, other
        for source, goal in zip(sources, goals):
            doors[numbers[source]][letter] = numbers[goal]
    good = [numbers[at, place] for at, place in spots if table[at][place][0]]
    for word, ahead, found in (("lost", False, {0}), ("stuck", True, set(good))):
        for _ in spots:
            found |= {source if ahead else goal for source, row in enumerate(doors) for goal in row
                      if goal is not None and (goal if ahead else source) in found}
        for spot in spots:
            if numbers[spot] not in found:
                return (word,) + spot
    lot = order_lot(machine_of(letters, tuple(map(tuple, doors)), tuple(sorted(good))))
    for at, place in spots:
        if (at, place + 1) in numbers and (numbers[at, place], numbers[at, place + 1]) not in lot:
            return "order", at, place
    return None


def every_change(value, put):
    """All values with one integer in its place put another one, or with one part of a tuple left out or twice."""
    if isinstance(value, int):
        yield from put(value)
        return
    for at, part in enumerate(value):
        yield value[:at] + value[at + 1:]
        yield value[:at] + (part,) + value[at:]
        for changed in every_change(part, put):
            yield value[:at] + (changed,) + value[at + 1:]


class RowTests(Checks):

    def test_examples(self):
        self.examples(EXAMPLES, {**vars(module), **NAMES})

    def test_constants(self):
        self.assertEqual(module.MOST_ROWED, 400)

    def test_rows(self):
        for machine in DRAWN:
            for choice in choices(machine):
                self.assertEqual(rows_of(machine, choice), plain_rows(machine, choice))

    def test_laid(self):
        for machine in DRAWN:
            for choice in choices(machine):
                told, told_lines = laid(machine, choice)
                self.assertEqual([len(line) for line in told_lines], [len(line) for line in choice])
                self.assertEqual([room for line in told_lines for room in line if room != 0],
                                 list(range(1, machine.size)))
                number = {room: to for line, told_line in zip(choice, told_lines) for room, to in zip(line, told_line)}
                self.assertEqual(number[0], 0)
                for room in range(machine.size):
                    self.assertEqual(told.doors[number[room]], tuple(number.get(goal) for goal in machine.doors[room]))
                self.assertEqual(told.good, tuple(sorted(number[room] for room in machine.good)))
                self.assertIs(are_lines(told, told_lines), True)
                self.assertTrue(are_alike(told, machine) and are_renamed(told, machine))
                self.assertEqual(laid(told, told_lines), (told, told_lines))

    def test_coming_back(self):
        for machine in DRAWN:
            for choice in choices(machine):
                rows = rows_of(machine, choice)
                self.assertEqual(of_rows(machine.letters, rows), laid(machine, choice))
                self.assertIs(is_rows(machine.letters, rows), True)
                self.assertEqual(rows_of(*laid(machine, choice)), rows)

    def test_equal_rows_and_equal_laid_machines(self):
        seen, back = {}, {}
        for at, machine in enumerate(DRAWN):
            others = (shuffled(machine, at), doubled(machine, at % machine.size)) if machine.size < 24 else ()
            for told in (machine, least(machine)) + others:
                for choice in choices(told):
                    machine_laid, lines_laid = laid(told, choice)
                    key = (told.letters, machine_laid.doors, machine_laid.good, lines_laid)
                    rows = (told.letters, rows_of(told, choice))
                    self.assertEqual(seen.setdefault(rows, key), key)
                    self.assertEqual(back.setdefault(key, rows), rows)

    def test_sizes(self):
        for machine in DRAWN:
            many = sum(goal is not None for row in machine.doors for goal in row)
            for choice in choices(machine):
                marks = [mark for line in rows_of(machine, choice)[0] for mark in line]
                self.assertEqual(sum(len(mark[1]) for mark in marks), many)
                self.assertEqual(sum(told[2] for mark in marks for told in mark[2]), many)
                self.assertLessEqual(max(len(mark[2]) for mark in marks), machine.letters * len(choice))

    def test_doors_go_up(self):
        for machine in DRAWN:
            for choice in choices(machine):
                for letter, line, other in product(range(machine.letters), choice, choice):
                    goals = [other.index(machine.doors[room][letter]) for room in line
                             if machine.doors[room][letter] in other]
                    self.assertEqual(goals, sorted(goals))

    def test_where_the_room_0_stands(self):
        first, second = ((0,), (1,)), ((1,), (0,))
        self.assertEqual([rows_of(EVEN, choice)[1] for choice in (first, second)], [(0, 0), (1, 0)])
        self.assertEqual(laid(EVEN, second), (EVEN, ((1,), (0,))))
        self.assertEqual(laid(TWINS, ((2,), (0, 1)))[1], ((1,), (0, 2)))
        self.assertEqual(of_rows(2, EVEN_ROWS), (EVEN, second))
        # The room 0 is never before another one of its line, so it begins the line; elsewhere the rows are refused.
        for place in (1, 2):
            self.assertEqual(plain_fault(1, (chain_rows(3)[0], (0, place)))[0], "lost")
            self.assertIs(is_rows(1, (chain_rows(3)[0], (0, place))), False)
        led = ((((1, (), ((0, 0, 1),)), (0, ((0, 0),), ())),), (0, 1))
        self.fails_with(Refused, ("order", 0, 0), of_rows, 1, led)
        self.assertEqual(of_rows(1, ((led[0][0][::-1],), (0, 0))), (chain(2, 1), ((0, 1),)))

    def test_what_is_not_true(self):
        line = ((0, 1, 2),)
        without = [[mark[:2] for row in rows_of(machine, line)[0] for mark in row] for machine in (ENDS, SLOW)]
        self.assertEqual(without[0], without[1])
        self.assertNotEqual(rows_of(ENDS, line), rows_of(SLOW, line))
        every = [Machine(2, machine.doors, (0, 1, 2)) for machine in (ENDS, SLOW)]
        self.assertTrue(are_alike(*every) and all(one_line_order(machine) == (0, 1, 2) for machine in every))
        self.assertNotEqual(rows_of(every[0], line), rows_of(every[1], line))


class BackTests(Checks):

    def test_all_rows_of_two_rooms(self):
        found = {1: set(), 2: set()}
        for letters in (1, 2):
            for rooms in (1, 2):
                goals = list(product([None] + list(range(rooms)), repeat=letters))
                for doors in product(goals, repeat=rooms):
                    for good in ((0,), (1,), (0, 1))[:1 if rooms == 1 else 3]:
                        try:
                            machine = Machine(letters, doors, good)
                        except Refused:
                            continue
                        found[letters] |= {rows_of(machine, choice) for choice in arrangements(rooms)
                                           if are_lines(machine, choice)}
        for many, told in ((1, found[1]), (2, found[2])):
            self.assertTrue(all(is_rows(many, rows) for rows in told))
        right = 0
        for sizes in ((1,), (2,), (1, 1)):
            doors = [()] + [((0, at),) for at in range(len(sizes))]
            ways = [tuple((0, at, many) for at, many in enumerate(told) if many)
                    for told in product(range(4), repeat=len(sizes))]
            for marks in product(product((0, 1), doors, ways), repeat=sum(sizes)):
                table = (marks,) if sizes != (1, 1) else (marks[:1], marks[1:])
                for start in ((0, 0), (0, 1), (1, 0)):
                    if start[0] < len(sizes) and start[1] < sizes[start[0]]:
                        rows = (table, start)
                        self.assertIs(is_rows(1, rows), rows in found[1])
                        right += rows in found[1]
        self.assertEqual(right, len(found[1]))
        dice = Random(105)
        for rows in sorted(found[2]):
            for changed in every_change(rows, lambda number: [number + 1, number - 1] if number else [1]):
                if dice.random() < 0.5:
                    self.assertIs(is_rows(2, changed), changed in found[2])

    def test_reasons(self):
        reasons = set()
        dice = Random(106)
        for machine in SMALL:
            for choice in choices(machine):
                rows = rows_of(machine, choice)
                for changed in every_change(rows, lambda number: [number + 1, 0]):
                    if dice.random() < 0.15:
                        self.check_back(machine.letters, changed, reasons)
        self.assertEqual(reasons, {"doors", "lost", "stuck", "order", None})

    def check_back(self, letters, rows, reasons):
        """What of_rows makes of changed rows is what the definitions tell."""
        try:
            fault = plain_fault(letters, rows)
        except (TypeError, ValueError, IndexError, KeyError):
            return
        try:
            machine, choice = of_rows(letters, rows)
        except InvalidLines:
            self.assertIs(is_rows(letters, rows), False)
        except Refused as refused:
            self.assertEqual(refused.reason, fault)
            self.assertIs(is_rows(letters, rows), False)
            reasons.add(fault[0])
        else:
            self.assertIs(fault, None)
            self.assertEqual(rows_of(machine, choice), rows)
            self.assertIs(is_rows(letters, rows), True)
            reasons.add(None)

    def test_drawn_rows(self):
        reasons, dice = set(), Random(107)
        for machine in tuple(random_machines(108, 400)) + SMALL:
            # Rows of rooms in any lines, also where the rooms are not before one another.
            sequence = dice.sample(range(machine.size), machine.size)
            cut = dice.randrange(machine.size)
            choice = tuple(tuple(part) for part in (sequence[:cut], sequence[cut:]) if part)
            self.check_back(machine.letters, plain_rows(machine, choice), reasons)
            good = [(1 - mark[0],) + mark[1:] for mark in plain_rows(machine, choice)[0][0]]
            self.check_back(machine.letters, ((tuple(good),) + plain_rows(machine, choice)[0][1:],
                                              plain_rows(machine, choice)[1]), reasons)
        self.assertEqual(reasons, {"order", "stuck", "lost", None})

    def test_which_reason_comes_first(self):
        both = ((0, 0), (1, 0))
        # Doors of both letters are too few; the letter 0 comes first.
        self.fails_with(Refused, ("doors", 0, 0, 0), of_rows, 2, ((((0, both, ()),),), (0, 0)))
        self.fails_with(Refused, ("doors", 1, 0, 0), of_rows, 2, ((((0, both, ((0, 0, 1),)),),), (0, 0)))
        table = (((0, ((0, 0), (1, 1)), ((0, 0, 1),)),), ((0, (), ((1, 1, 1),)),))
        # Missing ways from the line 0 into the line 1 come ahead of ways too many from the line 1.
        self.fails_with(Refused, ("doors", 1, 0, 1), of_rows, 2, (table, (0, 0)))
        table = (((0, ((1, 0),), ((0, 1, 1),)),), ((0, (), ((0, 0, 1),)),))
        self.fails_with(Refused, ("doors", 0, 0, 1), of_rows, 2, (table, (0, 0)))
        # A lost room comes ahead of a stuck one, however late it stands.
        table = (((0, ((0, 0),), ((0, 0, 1),)), (1, ((0, 0),), ((0, 0, 1),))),)
        self.fails_with(Refused, ("lost", 0, 1), of_rows, 1, (table, (0, 0)))
        table = (((0, ((0, 1),), ()), (0, (), ())), ((0, (), ((0, 0, 1),)),))
        self.fails_with(Refused, ("lost", 0, 1), of_rows, 1, (table, (0, 0)))
        # A stuck room comes ahead of one that is not before the next one.
        weave = machine_of(3, ((1, None, 2), (None, 0, None), (None, None, None)), (0,))
        self.fails_with(Refused, ("stuck", 1, 0), of_rows, 3, plain_rows(weave, ((0, 1), (2,))))
        weave = Machine(3, weave.doors, (0, 2))
        self.fails_with(Refused, ("order", 0, 0), of_rows, 3, plain_rows(weave, ((0, 1), (2,))))
        none_good = (tuple(tuple((0,) + mark[1:] for mark in line) for line in EVEN_ROWS[0]), (1, 0))
        self.fails_with(Refused, ("stuck", 0, 0), of_rows, 2, none_good)
        self.fails_with(Refused, ("order", 0, 0), of_rows, 2, plain_rows(WEAVE, ((0, 1),)))
        late = plain_rows(chain(4, 2), ((0, 1), (2, 3)))
        self.fails_with(Refused, ("order", 1, 0), of_rows, 2, late)

    def test_400_rooms_and_401(self):
        machine, choice = of_rows(1, chain_rows(400))
        self.assertEqual((machine.size, choice, machine.doors[398], machine.good),
                         (400, (tuple(range(400)),), ((399,)), (399,)))
        self.assertEqual(rows_of(machine, choice), chain_rows(400))
        self.assertEqual(lines(machine), choice)
        self.assertEqual(laid(machine, choice), (machine, choice))
        turned = of_rows(1, ring_rows(400))
        self.assertEqual((turned[0].size, len(turned[1]), turned[1][5], turned[0].good), (400, 400, (0,), (4,)))
        self.assertIs(is_rows(1, ring_rows(400)), True)
        for rows in (chain_rows(401), ring_rows(401)):
            self.fails(InvalidLines, of_rows, 1, rows)
            self.assertIs(is_rows(1, rows), False)

    def test_one_room(self):
        self.assertEqual(rows_of(ALL, ((0,),)), ((((1, ((0, 0), (1, 0)), ((0, 0, 1), (1, 0, 1))),),), (0, 0)))
        self.assertEqual(of_rows(1, ((((1, (), ()),),), (0, 0))), (Machine(1, ((None,),), (0,)), ((0,),)))
        self.fails_with(Refused, ("stuck", 0, 0), of_rows, 1, ((((0, (), ()),),), (0, 0)))
        self.fails_with(Refused, ("doors", 0, 0, 0), of_rows, 1, ((((1, (), ((0, 0, 400),)),),), (0, 0)))

    def test_wrong_form(self):
        table, start = EVEN_ROWS
        mark = table[0][0]
        wrong = [*NO_TUPLES, (), (table,), (table, start, 0), [table, start], ((), (0, 0)), (None, start), (0, start),
                 ("", start), (table, None), (table, ()), (table, (0,)), (table, (0, 0, 0)), (table, (0, 1)),
                 (table, (2, 0)), (table, (-1, 0)), (table, (0, -1)), (table, (True, 0)), (table, (0, False)),
                 (table, [1, 0]), (table, ("1", 0)), (table, (1, None)), (table, (1, 10 ** 60)), (list(table), start),
                 (table + ((),), start), (table[:1] + ([table[1][0]],), start), (table[:1] + (None,), start),
                 (table[:1] + ("ab",), start), (table[:1] + ((None,),), start), (table, 1), (EVEN, start)]
        for bad in ((2,) + mark[1:], (True,) + mark[1:], (False,) + mark[1:], (None,) + mark[1:], ("1",) + mark[1:],
                    (-1,) + mark[1:], mark[:2], mark + (0,), list(mark), (0, mark[1], None), (0, None, mark[2]), (),
                    (0, mark[1][::-1], mark[2]), (0, mark[1], mark[2][::-1]), (0, [(0, 1), (1, 0)], mark[2]),
                    (0, ((0, 1), (0, 2)), mark[2]), (0, ((0, 0), (0, 1)), mark[2]), (0, ((0, 1), (0, 1)), mark[2]),
                    (0, ((0, 1), (2, 0)), mark[2]), (0, ((-1, 0), (0, 1)), mark[2]), (0, ((0, 2), (1, 0)), mark[2]),
                    (0, ((0, -1), (1, 0)), mark[2]), (0, ((0, True), (1, 0)), mark[2]),
                    (0, ((False, 1), (1, 0)), mark[2]), (0, ((0, 1), (1,)), mark[2]), (0, ((0, 1), (1, 0, 0)), mark[2]),
                    (0, ((0, 1), [1, 0]), mark[2]), (0, ((0, 1), None), mark[2]), (0, ((0, None), (1, 0)), mark[2]),
                    (0, ((0, "1"), (1, 0)), mark[2]), (0, (0, 1), mark[2]), (0, ((0, 10 ** 60), (1, 0)), mark[2]),
                    (0, mark[1], ((0, 1, 0), (1, 0, 1))), (0, mark[1], ((0, 1, 401), (1, 0, 1))),
                    (0, mark[1], ((0, 1, True), (1, 0, 1))), (0, mark[1], ((0, 1, -1), (1, 0, 1))),
                    (0, mark[1], ((0, 1, None), (1, 0, 1))), (0, mark[1], ((0, 1), (1, 0))),
                    (0, mark[1], ((0, 1, 1), (0, 1, 2))), (0, mark[1], ((0, 1, 1), (0, 1, 1))),
                    (0, mark[1], ((0, 1, 1), (2, 0, 1))), (0, mark[1], ((0, 2, 1), (1, 0, 1))),
                    (0, mark[1], ((0, 1, 1, 1), (1, 0, 1))), (0, mark[1], ((0, 1, 10 ** 60), (1, 0, 1))),
                    (0, mark[1], ([0, 1, 1], (1, 0, 1))), (0, mark[1], ((False, 1, 1), (1, 0, 1))),
                    (0, mark[1], ((0, True, 1), (1, 0, 1))), (0, mark[1], (0, 1, 1)), (0, mark[1], {0: (0, 1, 1)}),
                    (0, "01", mark[2]), (EVEN, mark[1], mark[2]), (0, ((0, EVEN), (1, 0)), mark[2])):
            wrong.append((((bad,), table[1]), start))
        for value in wrong:
            self.fails(InvalidLines, of_rows, 2, value)
            self.assertIs(is_rows(2, value), False)
        self.assertIs(is_rows(2, EVEN_ROWS), True)
        self.assertIs(is_rows(3, EVEN_ROWS), True)
        self.fails(InvalidLines, of_rows, 1, EVEN_ROWS)

    def test_wrong_arguments(self):
        for given in NO_LETTERS:
            self.fails_with(InvalidNumber, given, of_rows, given, None)
            self.fails_with(InvalidNumber, given, of_rows, given, EVEN_ROWS)
            self.fails_with(InvalidNumber, given, is_rows, given, EVEN_ROWS)
        for value in NO_MACHINES:
            for call in (rows_of, laid):
                self.fails(InvalidMachine, call, value, None)
                self.fails(InvalidMachine, call, value, ((0,),))
        for value in NO_LINES:
            for call in (rows_of, laid):
                self.fails(InvalidLines, call, FORK, value)
