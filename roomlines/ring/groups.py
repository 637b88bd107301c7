"""Groups: ascending tuples of rooms that words lead as a whole, and those of them that go round.

If a word leads a group to itself as a whole, some power of it leads each of its rooms to itself. So a group goes
round exactly if words lead it to itself as a whole, and of all tuples of its piece only the groups need to be known.
"""

from roomlines.mach.heights import deciding_ways, height_by
from roomlines.mach.machines import ways_back


def _led_tuple(doors, rooms, letter):
    """The tuple of the rooms to which a letter leads some rooms, with None for a missing door."""
    return tuple([doors[room][letter] for room in rooms])


def _led_group(doors, group, letter):
    """The group to which a letter leads a group; None if it leads a room nowhere or two rooms to one."""
    goals = _led_tuple(doors, group, letter)
    return None if None in goals or len(set(goals)) < len(goals) else tuple(sorted(goals))


def _rows_from(machine, starts):
    """The dict from each group to which words lead some groups to the list of the groups behind its letters."""
    rows = {}
    waiting = list(starts)
    while waiting:
        group = waiting.pop()
        if group not in rows:
            rows[group] = [_led_group(machine.doors, group, letter) for letter in range(machine.letters)]
            waiting.extend([goal for goal in rows[group] if goal is not None])
    return rows


def _later_groups(rows, bits):
    """The dict from each group to the sum of the bits of all groups to which words other than () lead it."""
    later = {group: 0 for group in rows}
    # A group mostly stands ahead of those behind its letters, so going backwards few rounds are enough.
    groups = list(rows)[::-1]
    ended = False
    while not ended:
        ended = True
        for group in groups:
            found = later[group]
            for goal in rows[group]:
                if goal is not None:
                    found = found | bits[goal] | later[goal]
            ended = ended and found == later[group]
            later[group] = found
    return later


def groups_round(machine, starts):
    """The list of the groups that go round, of those to which words lead some groups, and the rows of their doors.

    The doors are those along rings. They lead to groups that are told by their indices.
    """
    rows = _rows_from(machine, starts)
    bits = {group: 1 << at for at, group in enumerate(rows)}
    later = _later_groups(rows, bits)
    groups = [group for group in rows if later[group] & bits[group]]
    place = {group: at for at, group in enumerate(groups)}
    doors = []
    for group in groups:
        along = [goal is not None and bits[group] & (bits[goal] | later[goal]) > 0 for goal in rows[group]]
        doors.append(tuple([place[goal] if there else None for goal, there in zip(rows[group], along)]))
    return groups, doors


def near_ways(rounds, side):
    """The list that has for each group that goes round the ways back along the endless word of a side near it."""
    return deciding_ways(ways_back(rounds[1]), side)


def edge_along(letters, ways, at):
    """The endless word that the ways back spell, beginning at the group with an index."""
    return height_by(letters, [pairs[0] for pairs in ways], at)


def _words_along(machine, rooms, rounds):
    """The dict from each tuple of the piece of rooms that go round to its first word, in the sequence of these."""
    groups, doors = rounds
    row = dict(zip(groups, doors))
    words = {rooms: ()}
    queue = [rooms]
    at = 0
    while at < len(queue):
        told = queue[at]
        for letter, goal in enumerate(row[tuple(sorted(told))]):
            led = None if goal is None else _led_tuple(machine.doors, told, letter)
            if led is not None and led not in words:
                words[led] = words[told] + (letter,)
                queue.append(led)
        at += 1
    return words


def piece_words(machine, rooms):
    """The dict from each tuple of the piece of some rooms, in the sequence of first words, to its first word.

    It is empty if the rooms do not go round.
    """
    rounds = groups_round(machine, [rooms])
    return _words_along(machine, rooms, rounds) if rooms in rounds[0] else {}


def _tuple_ahead(doors, group, letter, rooms):
    """The tuple of the rooms of a group that a letter leads to some rooms."""
    source = {doors[room][letter]: room for room in group}
    return tuple([source[room] for room in rooms])


def ring_along(machine, rooms, rounds, ways, many):
    """A ring of rooms that go round with so many last letters of the endless word that the ways back spell."""
    groups = rounds[0]
    ways_of = dict(zip(groups, ways))
    words = _words_along(machine, rooms, rounds)
    number = {told: at for at, told in enumerate(words)}
    spelled = []
    told = rooms
    for _ in range(many):
        found = [(letter, _tuple_ahead(machine.doors, groups[source], letter, told))
                 for letter, source in ways_of[tuple(sorted(told))]]
        # Several doors can spell the same letters; the first tuple of the piece is taken.
        letter, told = min(found, key=lambda pair: number[pair[1]])
        spelled.append(letter)
    return words[told] + tuple(spelled[::-1])
