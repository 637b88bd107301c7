"""Lines: each room of a line is before the next one. How few lines have all rooms, and which rooms are side by side."""

from roomlines.base.checks import has_all_once
from roomlines.errors import InvalidLines, InvalidOperation, InvalidRooms, UnknownName
from roomlines.mach.heights import height_ranks
from roomlines.mach.machines import check_machine, is_room_tuple, rooms_by_words

SIDES = ("early", "late")


def room_spans(machine):
    """The list that has for each room the pair (first, last) of the places that it covers, from 0 on.

    Two rooms are mixed exactly if they share a place; q is before r exactly if its last place is less than r's first.
    """
    low, high = height_ranks(machine)
    spans = []
    for least, greatest in zip(low, high):
        # Even places are heights, odd ones lie between them. A room of many words covers only what is strictly
        # between its heights, as two rooms can meet in one endless word and are not mixed then.
        inside = 0 if least == greatest else 1
        spans.append((2 * least + inside, 2 * greatest - inside))
    return spans


def is_line_of(spans, rooms):
    """Whether each room of a tuple is before the next one."""
    return all([spans[rooms[at - 1]][1] < spans[rooms[at]][0] for at in range(1, len(rooms))])


def _in_sequence(spans):
    """The list of all rooms, those that begin to cover places earlier first."""
    return [room for _, room in sorted([(span, room) for room, span in enumerate(spans)])]


def _full_sets(spans):
    """The list of all sets of full rooms, as ascending tuples, the early one first and the late one last."""
    # Rooms that are mixed two by two all share a place; where the last one of them begins, all of them are.
    crowds = [tuple([room for room, (first, last) in enumerate(spans) if first <= place <= last])
              for place in sorted({span[0] for span in spans})]
    most = max([len(crowd) for crowd in crowds])
    return [crowd for crowd in crowds if len(crowd) == most]


def _most_at_once(spans):
    """The greatest number of rooms that share a place."""
    ends = sorted([last for _, last in spans])
    ended = 0
    most = 0
    for at, first in enumerate(sorted([first for first, _ in spans])):
        while ends[ended] < first:
            ended += 1
        most = max(most, at + 1 - ended)
    return most


def line_number(machine):
    """The number of lines: the greatest number of rooms that are mixed two by two."""
    check_machine(machine)
    return _most_at_once(room_spans(machine))


def lines(machine):
    """A choice with the number of lines."""
    check_machine(machine)
    spans = room_spans(machine)
    made = []
    for room in _in_sequence(spans):
        free = [line for line in made if spans[line[-1]][1] < spans[room][0]]
        if free:
            free[0].append(room)
        else:
            made.append([room])
    return tuple([tuple(line) for line in made])


def is_whole_line(machine, rooms):
    """Whether each room of a sequence of all rooms is before the next one."""
    # It is if the pairs of each room and a later one keep doors: if the room 0 is the first one, and the doors, letter
    # by letter and in the sequence of the rooms that they come from, never lead back to an earlier room.
    doors = machine.doors
    place = {room: at for at, room in enumerate(rooms)}
    goals = [doors[room][letter] for letter in range(machine.letters) for room in rooms]
    spots = [place[goal] for goal in goals if goal is not None]
    return rooms[0] == 0 and spots == sorted(spots)


def are_lines(machine, value):
    """Whether the value is a choice of lines, however many."""
    check_machine(machine)
    if not has_all_once(value, machine.size):
        return False
    if len(value) == 1:
        return is_whole_line(machine, value[0])
    spans = room_spans(machine)
    return all([is_line_of(spans, line) for line in value])


def are_fewest_lines(machine, value):
    """Whether the value is a choice with the number of lines."""
    return are_lines(machine, value) and len(value) == line_number(machine)


def check_lines(machine, value):
    """Raise the errors of a machine and of a choice of its lines."""
    if not are_lines(machine, value):
        raise InvalidLines("no choice of lines of the machine")


def check_room_tuple(machine, value):
    """Raise InvalidRooms unless the value is an ascending tuple of rooms of the machine, not empty."""
    if not is_room_tuple(machine, value):
        raise InvalidRooms("no ascending tuple of rooms")


def side_by_side(machine, *, side="early"):
    """The early or the late full rooms."""
    check_machine(machine)
    if side not in SIDES:
        raise UnknownName(side)
    full = _full_sets(room_spans(machine))
    return full[0] if side == "early" else full[-1]


def is_side_by_side(machine, value):
    """Whether the value is an ascending tuple, not empty, of rooms that are mixed two by two."""
    check_machine(machine)
    if not is_room_tuple(machine, value):
        return False
    spans = room_spans(machine)
    return max([spans[room][0] for room in value]) <= min([spans[room][1] for room in value])


def _two_places(machine, rooms, further):
    """The indices of two tuples of rooms among all sets of full rooms, with the errors of earlier_of."""
    check_machine(machine)
    check_room_tuple(machine, rooms)
    check_room_tuple(machine, further)
    full = _full_sets(room_spans(machine))
    if rooms not in full or further not in full:
        raise InvalidOperation("rooms that are not full")
    return full.index(rooms), full.index(further)


def earlier_of(machine, rooms, further):
    """Of each line the earlier one of its rooms in two sets of full rooms."""
    # Rooms that lie between heights leave just one sequence of all full sets: so one of both sets is the earlier one.
    one, other = _two_places(machine, rooms, further)
    return rooms if one <= other else further


def later_of(machine, rooms, further):
    """Of each line the later one of its rooms in two sets of full rooms."""
    one, other = _two_places(machine, rooms, further)
    return further if one <= other else rooms


def one_line_order(machine):
    """The line that has all rooms; None if there is none."""
    check_machine(machine)
    # If there is one, any words to the rooms tell the sequence of these.
    line = tuple(rooms_by_words(machine.doors))
    return line if is_whole_line(machine, line) else None


def _step_list(spans):
    """The list of the greatest numbers of rooms of lines that end in the rooms."""
    found = [0] * len(spans)
    for room in _in_sequence(spans):
        found[room] = 1 + max([found[other] for other, span in enumerate(spans) if span[1] < spans[room][0]], default=0)
    return found


def steps(machine):
    """The tuple of the steps of all rooms."""
    check_machine(machine)
    return tuple(_step_list(room_spans(machine)))


def mixed_sets(machine):
    """The tuple of the sets of rooms of one step, by ascending steps."""
    told = steps(machine)
    return tuple([tuple([room for room, step in enumerate(told) if step == height])
                  for height in range(1, max(told) + 1)])


def longest_line(machine):
    """The first one, as tuples compare, of the lines with the greatest number of rooms."""
    check_machine(machine)
    spans = room_spans(machine)
    # Read backwards, a line that ends in a room is one that begins with it.
    rest = _step_list([(-last, -first) for first, last in spans])
    line = []
    covered = -1
    for many in range(max(rest), 0, -1):
        room = min([other for other, span in enumerate(spans) if rest[other] == many and span[0] > covered])
        line.append(room)
        covered = spans[room][1]
    return tuple(line)
