"""The fewest lines of all machines with one language, and a machine that has so few."""

from roomlines.errors import TooMany
from roomlines.mach.least import check_futures, futures, least_told, rooms_apart, rooms_onto
from roomlines.mach.machines import MAX_ROOMS, Machine, check_machine, is_room_tuple, numbered
from roomlines.order.lines import are_lines, line_number, lines, one_line_order
from roomlines.ring.entangled import entangled_paper, first_entangled, is_entangled_paper
from roomlines.unfold.mixing import least_lines, letters_to, room_sets
from roomlines.unfold.unfolded import check_folds, machine_of_folds, told_folds, with_joined

MAX_LEAST = 6
MAX_FOLD = 8
MAX_UNFOLDED = 400


def least_of_few(machine):
    """The least machine of the language, with the errors of fewest_lines."""
    check_machine(machine)
    return least_told(machine, MAX_LEAST)


def rooms_of_few(machine):
    """A machine with the rooms of the least one, in any sequence, with the errors of fewest_lines."""
    check_machine(machine)
    return rooms_apart(machine, MAX_LEAST)


def _check_letters_told(many):
    """Raise TooMany for more letters than a machine is unfolded by."""
    if many > MAX_FOLD:
        raise TooMany(MAX_FOLD)


def check_fold(small, many):
    """Raise the errors of fewest_machine for a least machine that wants to be unfolded by so many letters."""
    check_folds(small, min(many, MAX_FOLD))
    _check_letters_told(many)


def fewest_folds(small, many):
    """The pairs of a least machine, unfolded, and the doors between them, with the errors of fewest_machine."""
    folds = told_folds(small, min(many, MAX_FOLD))
    _check_letters_told(many)
    return folds


def fewest_lines(machine):
    """The least number of lines of all machines that are alike to the machine."""
    return least_lines(rooms_of_few(machine))[0]


def fewest_fold(machine):
    """The least number of letters by which the least machine, unfolded, has the fewest lines."""
    small = rooms_of_few(machine)
    many = least_lines(small)[1]
    check_fold(small, many)
    return many


def fewest_machine(machine):
    """The least machine, unfolded by the least number of letters with which it has the fewest lines."""
    small = rooms_of_few(machine)
    many = least_lines(small)[1]
    return machine_of_folds(small, fewest_folds(small, many))


def is_of_letters(machine, value):
    """Whether the value is a machine with as many letters as the machine."""
    return isinstance(value, Machine) and value.letters == machine.letters


def is_fewest_machine(machine, value):
    """Whether the value is a machine that is alike to the machine and has the fewest lines."""
    check_machine(machine)
    if not is_of_letters(machine, value):
        check_futures(machine, MAX_LEAST)
        return False
    small = rooms_of_few(machine)
    if rooms_onto(value, small) is None:
        return False
    if one_line_order(value) is not None:
        return True
    # The value has not less than the fewest lines. It has more of them if, unfolded, fewer lines are enough.
    sets = room_sets(small)
    return letters_to(sets, 1) is None and letters_to(sets, line_number(value) - 1) is None


def fewest_paper(machine):
    """A machine with the fewest lines, a choice of them, and as many entangled rooms of the least machine."""
    small = least_of_few(machine)
    number, many = least_lines(small)
    found = machine_of_folds(small, fewest_folds(small, many))
    if number == 1:
        return found, (one_line_order(found),), (), None
    rooms = first_entangled(small, number)
    return found, lines(found), rooms, entangled_paper(small, rooms)


def _shows_fewest(small, told, choice, rooms, paper):
    """Whether a machine and three more values are what fewest_paper shows of the language of a least machine."""
    if not isinstance(choice, tuple) or rooms_onto(told, small) is None:
        return False
    if len(choice) == 1:
        return rooms == () and paper is None and are_lines(told, choice)
    if not is_room_tuple(small, rooms) or len(rooms) != len(choice):
        return False
    # At least two rooms have a right paper that begins with "ring" just if they are entangled.
    if not isinstance(paper, tuple) or len(paper) != 4:
        return False
    return is_entangled_paper(small, rooms, paper) and are_lines(told, choice)


def is_fewest_paper(machine, value):
    """Whether the value shows what fewest_paper shows."""
    check_machine(machine)
    if not isinstance(value, tuple) or len(value) != 4 or not is_of_letters(machine, value[0]):
        check_futures(machine, MAX_LEAST)
        return False
    told, choice, rooms, paper = value
    return _shows_fewest(least_of_few(machine), told, choice, rooms, paper)


def _thinner(machine):
    """The machine with the first two rooms joined with which it has no more lines; None if there are no such rooms."""
    told = futures(machine)
    pairs = [(one, other) for one in range(machine.size) for other in range(one + 1, machine.size)
             if told[one] == told[other]]
    number = line_number(machine) if pairs else 0
    for one, other in pairs:
        joined = with_joined(machine, one, other)
        if line_number(joined) <= number:
            return joined
    return None


def thinned(machine):
    """The machine with rooms joined, the first ones first, as long as the lines do not grow more."""
    check_machine(machine)
    if machine.size > MAX_ROOMS:
        raise TooMany(MAX_ROOMS)
    check_futures(machine, MAX_LEAST)
    present = machine
    thinner = _thinner(present)
    while thinner is not None:
        present = thinner
        thinner = _thinner(present)
    return numbered(present)
