"""The fewest lines of all machines with one language, and a machine that has so few."""

from roomlines.errors import TooMany
from roomlines.mach.least import are_alike, futures, least
from roomlines.mach.machines import MAX_ROOMS, Machine, check_machine, is_room_tuple, numbered
from roomlines.order.lines import are_lines, line_number, lines
from roomlines.ring.entangled import entangled_number, entangled_paper, entangled_rooms, is_entangled_paper
from roomlines.unfold.unfolded import each_unfolded, with_joined

MAX_LEAST = 6
MAX_FOLD = 8
MAX_UNFOLDED = 400


def least_of_few(machine):
    """The least machine of the language, with the errors of fewest_lines."""
    small = least(machine)
    if small.size > MAX_LEAST:
        raise TooMany(MAX_LEAST)
    return small


def _fewest_unfolded(machine):
    """The pair of the number of letters and of the unfolded machine, with the errors of fewest_machine."""
    small = least_of_few(machine)
    number = entangled_number(small)
    many = 0
    for told in each_unfolded(small):
        if line_number(told) == number:
            return many, told
        many += 1
    raise TooMany(MAX_UNFOLDED if many <= MAX_FOLD else MAX_FOLD)


def fewest_lines(machine):
    """The least number of lines of all machines that are alike to the machine."""
    return entangled_number(least_of_few(machine))


def fewest_fold(machine):
    """The least number of letters by which the least machine, unfolded, has the fewest lines."""
    return _fewest_unfolded(machine)[0]


def fewest_machine(machine):
    """The least machine, unfolded by the least number of letters with which it has the fewest lines."""
    return _fewest_unfolded(machine)[1]


def is_machine_like(machine, value):
    """Whether the value is a machine that is alike to the machine."""
    return isinstance(value, Machine) and value.letters == machine.letters and are_alike(value, machine)


def is_fewest_machine(machine, value):
    """Whether the value is a machine that is alike to the machine and has the fewest lines."""
    number = fewest_lines(machine)
    return is_machine_like(machine, value) and line_number(value) == number


def fewest_paper(machine):
    """A machine with the fewest lines, a choice of them, and as many entangled rooms of the least machine."""
    found = fewest_machine(machine)
    small = least(machine)
    rooms = entangled_rooms(small)
    return found, lines(found), rooms, entangled_paper(small, rooms) if rooms else None


def is_fewest_paper(machine, value):
    """Whether the value shows what fewest_paper shows."""
    small = least_of_few(machine)
    if not isinstance(value, tuple) or len(value) != 4:
        return False
    told, choice, rooms, paper = value
    if not is_machine_like(machine, told) or not are_lines(told, choice):
        return False
    if len(choice) == 1:
        return rooms == () and paper is None
    if not is_room_tuple(small, rooms) or len(rooms) != len(choice):
        return False
    # At least two rooms have a right paper that begins with "ring" just if they are entangled.
    return isinstance(paper, tuple) and len(paper) == 4 and is_entangled_paper(small, rooms, paper)


def _thinner(machine):
    """The machine with the first two rooms joined with which it has no more lines; None if there are no such rooms."""
    number = line_number(machine)
    told = futures(machine)
    for one in range(machine.size):
        for other in range(one + 1, machine.size):
            if told[one] == told[other]:
                joined = with_joined(machine, one, other)
                if line_number(joined) <= number:
                    return joined
    return None


def thinned(machine):
    """The machine with rooms joined, the first ones first, as long as the lines do not grow more."""
    check_machine(machine)
    if machine.size > MAX_ROOMS:
        raise TooMany(MAX_ROOMS)
    least_of_few(machine)
    present = machine
    thinner = _thinner(present)
    while thinner is not None:
        present = thinner
        thinner = _thinner(present)
    return numbered(present)
