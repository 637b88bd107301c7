"""Least machines, and the words that part unlike machines and unlike rooms."""

from roomlines.errors import InvalidMachine, InvalidOperation, Refused, TooMany
from roomlines.mach.machines import check_machine, check_machines, check_rooms, machine_of

# Up to so many futures, rounds through all rooms are quicker than rounds through those that can come apart.
_FEW = 8


def _completed(machine):
    """Rows of doors, and the list of which rooms are good, with one room more in place of all that is missing."""
    nowhere = machine.size
    rows = [[nowhere if goal is None else goal for goal in row] for row in machine.doors]
    rows.append([nowhere] * machine.letters)
    flags = [False] * (nowhere + 1)
    for room in machine.good:
        flags[room] = True
    return rows, flags


def _sources(rows):
    """The list that has for each room the list of the rooms from which doors lead to it."""
    sources = [[] for _ in rows]
    for room, row in enumerate(rows):
        for goal in row:
            sources[goal].append(room)
    return sources


def _parts(rows, sorts, rooms):
    """The dict from each sort of some rooms to the list of their parts: the doors of a part lead to equal sorts."""
    parts = {}
    for room in rooms:
        key = tuple([sorts[goal] for goal in rows[room]])
        parts.setdefault(sorts[room], {}).setdefault(key, []).append(room)
    return {sort: list(lists.values()) for sort, lists in parts.items()}


def _new_parts(members, parts):
    """The list of all parts of a sort but the largest one: those that are told, and what is left of it."""
    told = {room: True for part in parts for room in part}
    largest = max(parts, key=len)
    if len(members) - len(told) >= len(largest):
        return parts
    left = [room for room in members if room not in told]
    return [part for part in parts + [left] if part and part != largest]


def _sorts(rows, flags, most):
    """The list that has for each room the number of its future; None if there are more than so many futures."""
    sources = _sources(rows)
    members = [{room: True for room in range(len(rows))}]
    sorts = [0] * len(rows)
    flagged = [room for room, flag in enumerate(flags) if flag]
    waiting = {0: [flagged]} if flagged else {}
    while waiting and len(members) <= most:
        changed = []
        for sort, parts in waiting.items():
            apart = _new_parts(members[sort], parts)
            for part in apart:
                for room in part:
                    del members[sort][room]
                    sorts[room] = len(members)
                members.append({room: True for room in part})
                changed.extend(part)
        # The largest part keeps its number, so only rooms ahead of the other ones can come apart.
        waiting = _parts(rows, sorts, sorted({source for room in changed for source in sources[room]}))
    return None if len(members) > most else sorts


def _first_of_few(machine, most):
    """What _first_alike tells, found by rounds through all rooms."""
    doors = machine.doors
    size = len(doors)
    columns = [list(range(size))] + list(zip(*doors))
    sorts = {room: None for room in range(size)}
    for room in machine.good:
        sorts[room] = machine.good[0]
    many = 0
    while True:
        # All that is missing is one room more, None, which is not good and does not lead to any other room.
        sorts[None] = None
        firsts = {(None,) * len(columns): None}
        told = [[sorts[goal] for goal in column] for column in columns]
        found = {room: firsts.setdefault(key, room) for room, key in enumerate(zip(*told))}
        if len(firsts) > most + 1:
            return None
        if len(firsts) == many or len(firsts) > size:
            return list(found.values())
        many = len(firsts)
        sorts = found


def _first_alike(machine, most):
    """The list that has for each room the least room with its future, None for no future; None for too many futures."""
    if most <= _FEW:
        return _first_of_few(machine, most)
    rows, flags = _completed(machine)
    sorts = _sorts(rows, flags, most + 1)
    if sorts is None:
        return None
    first = {}
    for room in range(machine.size):
        first.setdefault(sorts[room], room)
    first[sorts[machine.size]] = None
    return [first[sorts[room]] for room in range(machine.size)]


def _told_alike(machine, most):
    """What _first_alike tells; TooMany for more than so many futures."""
    first = _first_alike(machine, most)
    if first is None:
        raise TooMany(most)
    return first


def glued(machine, first):
    """The numbered machine in which each room is one with a room of its future, and the tuple of where the rooms go.

    The list tells for each room the least one with which it is one, so that all doors lead to one of those; and None
    for a room without a future.
    """
    place = {0: 0}
    rooms = [0]
    rows = []
    while len(rows) < len(rooms):
        goals = [None if goal is None else first[goal] for goal in machine.doors[rooms[len(rows)]]]
        for goal in goals:
            if goal is not None and goal not in place:
                place[goal] = len(rooms)
                rooms.append(goal)
        rows.append(tuple([place.get(goal) for goal in goals]))
    good = sorted([place[room] for room in machine.good if room in place])
    return machine_of(machine.letters, tuple(rows), tuple(good)), tuple([place.get(room) for room in first])


def least_told(machine, most):
    """The least machine of the language of a machine that can have stuck rooms.

    It raises Refused if there is no word in the language, and TooMany for more than so many rooms.
    """
    first = _told_alike(machine, most)
    if first[0] is None:
        raise Refused(("empty",))
    return glued(machine, first)[0]


def rooms_apart(machine, most):
    """A machine of the language with one room for each future: the machine itself, if it is one, or the least one.

    It raises TooMany for more than so many rooms.
    """
    first = _told_alike(machine, most)
    return machine if first == list(range(machine.size)) else glued(machine, first)[0]


def check_futures(machine, most):
    """Raise TooMany if the rooms of the machine have more than so many futures."""
    if machine.size > most:
        _told_alike(machine, most)


def least(machine):
    """The least machine of the language."""
    check_machine(machine)
    return glued(machine, _first_alike(machine, machine.size))[0]


def rooms_onto(machine, small):
    """The dict from each room of a machine to the room of its future in a least machine; None for unlike languages."""
    goes = {None: None, 0: 0}
    waiting = [0]
    while waiting:
        room = waiting.pop()
        images = small.doors[goes[room]]
        for goal, image in zip(machine.doors[room], images):
            if goal not in goes and image is not None:
                goes[goal] = image
                waiting.append(goal)
            elif goal not in goes or goes[goal] != image:
                return None
    good = [room for room in range(machine.size) if goes[room] in small.good]
    return goes if tuple(good) == machine.good else None


def futures(machine):
    """The tuple that has for each room the room of the least machine to which it goes."""
    check_machine(machine)
    return glued(machine, _first_alike(machine, machine.size))[1]


def are_alike(one, other):
    """Whether two machines have one language."""
    check_machines(one, other)
    return least(one) == least(other)


def _spelled(back, pair):
    """The word that leads to a pair, by the dict of the pairs and letters from which pairs were reached."""
    letters = []
    at = pair
    while back[at] is not None:
        at, letter = back[at]
        letters.append(letter)
    return tuple(letters[::-1])


def _parting(one, other, start):
    """The first word that leads from a pair of rooms to a good one and another one; None if there is none."""
    rows, flags = _completed(one)
    other_rows, other_flags = _completed(other)
    back = {start: None}
    queue = [start]
    at = 0
    while at < len(queue):
        pair = queue[at]
        if flags[pair[0]] != other_flags[pair[1]]:
            return _spelled(back, pair)
        for letter in range(one.letters):
            goals = (rows[pair[0]][letter], other_rows[pair[1]][letter])
            if goals not in back:
                back[goals] = (pair, letter)
                queue.append(goals)
        at += 1
    return None


def parting_word(one, other):
    """The first word that just one of two languages has; None for alike machines."""
    check_machines(one, other)
    return _parting(one, other, (0, 0))


def parting_future(machine, one, other):
    """The first word that is in the future of just one of two rooms; None if both have one future."""
    check_rooms(machine, one, other)
    return _parting(machine, machine, (one, other))


def _counted_words(machine):
    """The list that has for each room the number of the words that lead to it; None if they are endlessly many."""
    waiting = [0] * machine.size
    for row in machine.doors:
        for goal in row:
            if goal is not None:
                waiting[goal] += 1
    counts = [1] + [0] * (machine.size - 1)
    ready = [room for room in range(machine.size) if waiting[room] == 0]
    done = 0
    while ready:
        room = ready.pop()
        done += 1
        for goal in machine.doors[room]:
            if goal is not None:
                counts[goal] = counts[goal] + counts[room]
                waiting[goal] -= 1
                if waiting[goal] == 0:
                    ready.append(goal)
    return counts if done == machine.size else None


def has_ends(machine):
    """Whether the language is finite."""
    check_machine(machine)
    return _counted_words(machine) is not None


def language_size(machine):
    """The number of the words of the language; None if it is not finite."""
    check_machine(machine)
    counts = _counted_words(machine)
    if counts is None:
        return None
    return sum([counts[room] for room in machine.good])


def each_alike(machine, machines):
    """Yield for each of some machines whether it is alike to the machine."""
    check_machine(machine)
    if not isinstance(machines, tuple):
        raise InvalidMachine("no tuple of machines")
    for told in machines:
        check_machine(told)
    for told in machines:
        if told.letters != machine.letters:
            raise InvalidOperation("the machines have unlike numbers of letters")
    model = least(machine)
    for told in machines:
        yield least(told) == model
