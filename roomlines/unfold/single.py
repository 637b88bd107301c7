"""Machines with one line, and lots: neighbouring beginnings with one future, which are the rooms of the least one."""

from roomlines.base.checks import check_number
from roomlines.base.words import check_word, count_common, is_spelled, order_words
from roomlines.errors import InvalidOperation, Refused
from roomlines.mach.least import futures, parting_future, rooms_onto
from roomlines.mach.machines import beginnings, check_machine, first_words, machine_of, room_behind, rooms_by_words
from roomlines.order.lines import one_line_order
from roomlines.ring.entangled import entangled_rooms
from roomlines.unfold.fewest import check_fold, fewest_folds, is_of_letters, least_of_few, rooms_of_few
from roomlines.unfold.mixing import letters_to_one_line

MAX_LISTED = 8
MOST_LETTERS = 2000


def has_one_line(machine):
    """Whether the language has a machine with one line."""
    return letters_to_one_line(rooms_of_few(machine)) is not None


def _lots(pairs, doors):
    """The list of the lots, each as a list of rooms, of an unfolded least machine with one line."""
    lots = []
    future = None
    # Any words to the rooms tell the sequence of these on the line.
    for room in rooms_by_words(doors):
        # Neighbours on the line with one future have no beginning with another one between them.
        if pairs[room][0] == future:
            lots[-1].append(room)
        else:
            future = pairs[room][0]
            lots.append([room])
    return lots


def single_machine(machine):
    """The machine whose rooms are the lots, in their order."""
    small = least_of_few(machine)
    rooms = entangled_rooms(small)
    if rooms:
        raise Refused(("entangled", rooms))
    pairs, rows = fewest_folds(small, letters_to_one_line(small))
    lots = _lots(pairs, rows)
    place = {room: at for at, lot in enumerate(lots) for room in lot}
    doors = tuple([tuple([place.get(goal) for goal in rows[lot[0]]]) for lot in lots])
    good = tuple([at for at, lot in enumerate(lots) if pairs[lot[0]][0] in small.good])
    return machine_of(small.letters, doors, good)


def single_number(machine):
    """The number of the lots; None if they are endlessly many."""
    small = rooms_of_few(machine)
    many = letters_to_one_line(small)
    if many is None:
        return None
    pairs, doors = fewest_folds(small, many)
    return len(_lots(pairs, doors))


def is_single_machine(machine, value):
    """Whether the value is a machine of the language with one line and as many rooms as lots."""
    small = rooms_of_few(machine)
    many = letters_to_one_line(small)
    if many is None:
        return False
    check_fold(small, many)
    goes = rooms_onto(value, small) if is_of_letters(machine, value) else None
    line = None if goes is None else one_line_order(value)
    # Its rooms are the lots exactly if neighbours on its line never have one future.
    return line is not None and all([goes[line[at - 1]] != goes[line[at]] for at in range(1, len(line))])


def _beginning_rooms(machine, one, other):
    """The rooms to which two words lead, with the errors of lot_paper."""
    check_machine(machine)
    check_word(machine.letters, one)
    check_word(machine.letters, other)
    rooms = room_behind(machine, 0, one), room_behind(machine, 0, other)
    if None in rooms:
        raise InvalidOperation("a word that is no beginning")
    return rooms


def _ends_between(letters, one, other):
    """The list of triples (at, many, letter) of ends of the words strictly between a word and one behind it.

    Each end has a letter ahead of so many last letters of the one word (0) or of the other one (1). All words that
    have it are between both. Besides them only some ends of the other word itself are.
    """
    back, further = one[::-1], other[::-1]
    common = count_common(one, other)
    if common == len(one):
        return [(1, many, letter) for many in range(common, len(other)) for letter in range(further[many])]
    found = [(1, common, letter) for letter in range(back[common] + 1, further[common])]
    found.extend([(1, many, letter) for many in range(common + 1, len(other)) for letter in range(further[many])])
    found.extend([(0, many, letter) for many in range(common + 1, len(one))
                  for letter in range(back[many] + 1, letters)])
    return found + [(0, len(one), letter) for letter in range(letters)]


def _rooms_ahead(machine, goals, letter):
    """The dict of the rooms from which a letter leads to one of some rooms."""
    return {room: True for room, row in enumerate(machine.doors) if row[letter] in goals}


def _rooms_back(machine, goals, word):
    """The list that has for each number the dict of the rooms from which so many last letters lead to some rooms."""
    found = [goals]
    for letter in word[::-1]:
        found.append(_rooms_ahead(machine, found[-1], letter))
    return found


def _word_between(machine, one, other, goals):
    """A word strictly between a word and one behind it that leads to one of some rooms; None if there is none."""
    words = (one, other)
    back = [_rooms_back(machine, goals, word) for word in words]
    for many in range(count_common(one, other) + 1, len(other)):
        if 0 in back[1][many]:
            return other[len(other) - many:]
    for at, many, letter in _ends_between(machine.letters, one, other):
        ahead = list(_rooms_ahead(machine, back[at][many], letter))
        if ahead:
            return first_words(machine)[ahead[0]] + (letter,) + words[at][len(words[at]) - many:]
    return None


def lot_paper(machine, one, other):
    """A paper that shows whether two beginnings are in one lot."""
    rooms = _beginning_rooms(machine, one, other)
    told = futures(machine)
    if told[rooms[0]] != told[rooms[1]]:
        return "future", parting_future(machine, rooms[0], rooms[1])
    ahead, behind = (one, other) if order_words(one, other) < 0 else (other, one)
    goals = {room: True for room in range(machine.size) if told[room] != told[rooms[0]]}
    word = _word_between(machine, ahead, behind, goals)
    if word is None:
        return ("lot",)
    return "between", word, parting_future(machine, room_behind(machine, 0, word), rooms[0])


def _is_between_paper(machine, one, other, value):
    """Whether three values are a paper that a word between two beginnings with one future has another one."""
    told, word, telling = value
    if told != "between" or not all([is_spelled(machine.letters, part, MOST_LETTERS) for part in (word, telling)]):
        return False
    if order_words(one, word) * order_words(word, other) != 1:
        return False
    room = room_behind(machine, 0, word)
    return room is not None and telling == parting_future(machine, room, room_behind(machine, 0, one))


def is_lot_paper(machine, one, other, value):
    """Whether the value is a right paper on whether two beginnings are in one lot."""
    right = lot_paper(machine, one, other)
    if not isinstance(value, tuple) or len(value) != len(right):
        return False
    if right[0] == "between":
        return _is_between_paper(machine, one, other, value)
    # Letters that are equal to those of the word need not be letters.
    return value == right and all([is_spelled(machine.letters, word, MOST_LETTERS) for word in value[1:]])


def lots_to(machine, length):
    """Yield the beginnings with at most so many letters, in order, as tuples of neighbours with one future."""
    check_machine(machine)
    check_number(length, 0, MAX_LISTED)
    told = futures(machine)
    neighbours = []
    future = told[0]
    for word in beginnings(machine, length):
        renewed = told[room_behind(machine, 0, word)]
        if renewed != future:
            yield tuple(neighbours)
            neighbours = []
            future = renewed
        neighbours.append(word)
    yield tuple(neighbours)
