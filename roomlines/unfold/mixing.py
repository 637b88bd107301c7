"""How many last letters take the rooms of a machine apart into few lines, found without unfolding it.

Unfolded by some letters, the words to a room that end in so many letters w are those that lead to one of some rooms,
with w behind them. So the rooms with these last letters lie to one another as such sets of rooms do. One letter more,
ahead of w, makes of each set the set of the rooms from which this letter leads to a room of it. Few rooms have few
sets; so this either ends, or comes back to the same sets and then goes on for however many letters.

A set of rooms is an integer here, whose bits tell the rooms; a set of places (see room_spans) likewise. A lot of sets
is an ascending tuple of them.
"""

from roomlines.order.lines import room_spans


def _sources_of_sets(machine, letter):
    """The list that has for each set of rooms the set of the rooms from which a letter leads to one of them."""
    sources = [0] * machine.size
    for room, row in enumerate(machine.doors):
        if row[letter] is not None:
            sources[row[letter]] = sources[row[letter]] | (1 << room)
    table = [0]
    for rooms in sources:
        table = table + [rooms | told for told in table]
    return table


def _filled(places):
    """All places from the first one to the last one of some places."""
    return (1 << places.bit_length()) - (places & -places)


def _places_of_sets(machine):
    """The list that has for each set of rooms the places that it covers. Sets are mixed if they share a place."""
    table = [0]
    for first, last in room_spans(machine):
        places = (2 << last) - (1 << first)
        table = table + [_filled(told | places) for told in table]
    return table


def room_sets(machine):
    """The list of the sets of one room, and two tables of all sets, of a machine of few rooms.

    The first table tells the places of the sets, the second one has for each letter the sets of their sources.
    """
    sources = [_sources_of_sets(machine, letter) for letter in range(machine.letters)]
    return [1 << room for room in range(machine.size)], _places_of_sets(machine), sources


def _mixed_rooms(bits, places_of, many):
    """The list of the lots of so many sets of one room each that are mixed two by two."""
    lots = [((bit,), places_of[bit]) for bit in bits]
    for _ in range(many - 1):
        lots = [(lot + (bit,), places & places_of[bit]) for lot, places in lots for bit in bits
                if lot[-1] < bit and places & places_of[bit] > 0]
    return [lot for lot, _ in lots]


def _lots_ahead(sets, lot):
    """The list of the lots that letters make of a lot, as far as their sets are mixed two by two."""
    _, places_of, sources = sets
    found = []
    for table in sources:
        ahead = [table[rooms] for rooms in lot]
        places = -1
        for rooms in ahead:
            places = places & places_of[rooms]
        if places > 0:
            found.append(tuple(sorted(ahead)))
    return found


def _most_letters(sets, lots):
    """The greatest number of letters for which some lot stays mixed; -1 for no lots, None if there is no greatest."""
    ahead = {}
    most = {}
    waiting = list(lots)
    while waiting:
        lot = waiting[-1]
        if lot in ahead:
            waiting.pop()
            most[lot] = max([1 + most[told] for told in ahead[lot]], default=0)
        else:
            ahead[lot] = _lots_ahead(sets, lot)
            # Lots that are begun and not done stand on the way to this one; letters that lead back to them go round.
            if any([told in ahead and told not in most for told in ahead[lot]]):
                return None
            waiting.extend([told for told in ahead[lot] if told not in ahead])
    return max([most[lot] for lot in lots], default=-1)


def letters_to(sets, number):
    """The least number of letters by which a machine, unfolded, has at most so many lines; None if no number does."""
    bits, places_of, _ = sets
    if number >= len(bits):
        return 0
    most = _most_letters(sets, _mixed_rooms(bits, places_of, number + 1))
    return None if most is None else most + 1


def letters_to_one_line(machine):
    """The least number of letters by which a machine of few rooms, unfolded, has one line; None if no number does."""
    return 0 if machine.size == 1 else letters_to(room_sets(machine), 1)


def least_lines(machine):
    """The fewest lines that a machine of few rooms has, unfolded, and the least number of letters for so few."""
    if machine.size == 1:
        return 1, 0
    sets = room_sets(machine)
    number = 1
    many = letters_to(sets, number)
    while many is None:
        number += 1
        many = letters_to(sets, number)
    return number, many
