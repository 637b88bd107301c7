"""Rows: what a machine tells along a choice of lines, and the machine that comes back from them."""

from roomlines.base.checks import are_ascending, is_number
from roomlines.base.words import check_letters
from roomlines.errors import InvalidLines, Refused
from roomlines.mach.machines import alive_rooms, all_ways, first_ways, machine_of, rearranged
from roomlines.order.lines import check_lines, is_line_of, room_spans

MOST_ROWED = 400


def _spots(lines):
    """The dict from each room to the pair (line, place) at which it stands."""
    return {room: (at, place) for at, line in enumerate(lines) for place, room in enumerate(line)}


def _mark(machine, spots, ways, room):
    """The mark of a room: whether it is good, its doors, and how many doors come into it from which lines."""
    doors = [(letter, spots[goal][0]) for letter, goal in enumerate(machine.doors[room]) if goal is not None]
    many = {}
    for letter, source in ways[room]:
        key = (letter, spots[source][0])
        many[key] = many.get(key, 0) + 1
    counted = sorted([key + (many[key],) for key in many])
    return 1 if room in machine.good else 0, tuple(doors), tuple(counted)


def rows_of(machine, lines):
    """The rows of the machine along the lines."""
    check_lines(machine, lines)
    spots = _spots(lines)
    ways = all_ways(machine)
    table = tuple([tuple([_mark(machine, spots, ways, room) for room in line]) for line in lines])
    return table, spots[0]


def _laid_lines(sizes, start):
    """The lines of a laid machine, if they have so many rooms and the room 0 stands at the start."""
    made = []
    number = 1
    for at, size in enumerate(sizes):
        line = []
        for place in range(size):
            if (at, place) == start:
                line.append(0)
            else:
                line.append(number)
                number += 1
        made.append(tuple(line))
    return tuple(made)


def laid(machine, lines):
    """The pair of the laid machine and of its choice of lines."""
    check_lines(machine, lines)
    sequence = [0] + [room for line in lines for room in line if room != 0]
    doors, good = rearranged(machine.doors, machine.good, sequence)
    sizes = [len(line) for line in lines]
    return machine_of(machine.letters, doors, good), _laid_lines(sizes, _spots(lines)[0])


def _are_parts(letters, size, length, value):
    """Whether the value is a tuple of tuples of the length that begin with a letter and one of so many lines."""
    if not isinstance(value, tuple) or not all([isinstance(part, tuple) and len(part) == length for part in value]):
        return False
    return all([is_number(part[0], 0, letters - 1) and is_number(part[1], 0, size - 1) for part in value])


def _is_mark(letters, size, value):
    """Whether the value is a mark on one of so many lines."""
    if not isinstance(value, tuple) or len(value) != 3 or not is_number(value[0], 0, 1):
        return False
    if not _are_parts(letters, size, 2, value[1]) or not _are_parts(letters, size, 3, value[2]):
        return False
    # A letter stands once in the doors, and once with each line in the ways.
    return (are_ascending([part[0] for part in value[1]]) and are_ascending([part[:2] for part in value[2]])
            and all([is_number(part[2], 1, MOST_ROWED) for part in value[2]]))


def _is_table(letters, value):
    """Whether the value is a table of marks of at most 400 rooms."""
    if not isinstance(value, tuple) or not all([isinstance(line, tuple) and len(line) > 0 for line in value]):
        return False
    if not 1 <= sum([len(line) for line in value]) <= MOST_ROWED:
        return False
    return all([_is_mark(letters, len(value), mark) for line in value for mark in line])


def _are_rows(letters, value):
    """Whether the value has the form of rows of a machine with so many letters."""
    if not isinstance(value, tuple) or len(value) != 2 or not _is_table(letters, value[0]):
        return False
    table, start = value
    if not isinstance(start, tuple) or len(start) != 2 or not is_number(start[0], 0, len(table) - 1):
        return False
    return is_number(start[1], 0, len(table[start[0]]) - 1)


def _door_rooms(table, lines):
    """The dict from (letter, line, other line) to the list of the rooms from which such doors come, in sequence."""
    found = {}
    for at, line in enumerate(lines):
        for room, mark in zip(line, table[at]):
            for letter, other in mark[1]:
                found.setdefault((letter, at, other), []).append(room)
    return found


def _way_rooms(table, lines):
    """The dict from (letter, line, other line) to the list of the pairs (room, many) into which such doors come."""
    found = {}
    for at, line in enumerate(lines):
        for room, mark in zip(line, table[at]):
            for letter, other, many in mark[2]:
                found.setdefault((letter, other, at), []).append((room, many))
    return found


def _doors_of(letters, table, lines):
    """The doors that rows tell: those between two lines lead in their sequence to the rooms in theirs."""
    sources = _door_rooms(table, lines)
    ways = _way_rooms(table, lines)
    for key in sorted(set(list(sources) + list(ways))):
        if len(sources.get(key, [])) != sum([many for _, many in ways.get(key, [])]):
            raise Refused(("doors",) + key)
    doors = [[None] * letters for line in lines for _ in line]
    for key in sources:
        goals = [room for room, many in ways[key] for _ in range(many)]
        for source, goal in zip(sources[key], goals):
            doors[source][key[0]] = goal
    return tuple([tuple(row) for row in doors])


def _first_outside(lines, found):
    """The first pair (line, place) of a room that is not among the found ones; None if there is none."""
    outside = [(at, place) for at, line in enumerate(lines) for place, room in enumerate(line) if room not in found]
    return outside[0] if outside else None


def _first_unordered(machine, lines):
    """The first pair (line, place) of a room that is not before the next one of its line; None if there is none."""
    spans = room_spans(machine)
    wrong = [(at, place) for at, line in enumerate(lines) for place in range(len(line) - 1)
             if not is_line_of(spans, line[place:place + 2])]
    return wrong[0] if wrong else None


def of_rows(letters, rows):
    """The pair of the laid machine and of its choice of lines that have these rows."""
    check_letters(letters)
    if not _are_rows(letters, rows):
        raise InvalidLines("no rows")
    table, start = rows
    lines = _laid_lines([len(line) for line in table], start)
    doors = _doors_of(letters, table, lines)
    good = sorted([room for at, line in enumerate(lines) for room, mark in zip(line, table[at]) if mark[0] == 1])
    lost = _first_outside(lines, first_ways(doors))
    if lost is not None:
        raise Refused(("lost",) + lost)
    stuck = _first_outside(lines, alive_rooms(doors, good))
    if stuck is not None:
        raise Refused(("stuck",) + stuck)
    machine = machine_of(letters, doors, tuple(good))
    unordered = _first_unordered(machine, lines)
    if unordered is not None:
        raise Refused(("order",) + unordered)
    return machine, lines


def is_rows(letters, value):
    """Whether the value is the rows of some machine along some choice of its lines."""
    check_letters(letters)
    try:
        of_rows(letters, value)
    except (InvalidLines, Refused):
        return False
    return True
