"""[16.1] to [16.7]: deeds on languages."""

from itertools import product

from roomlines.base.endless import Endless
from roomlines.deeds import languages as module
from roomlines.deeds.languages import (after, ended_by, less, meet, of_words, put_ahead, union_of, with_words,
                                       without_words)
from roomlines.errors import InvalidMachine, InvalidNumber, InvalidOperation, InvalidWord, Refused, TooMany
from roomlines.mach.least import are_alike, has_ends, language_size, least
from roomlines.mach.machines import Machine, machine_of
from roomlines.order.lines import line_number
from roomlines.unfold.fewest import fewest_lines
from roomlines.unfold.unfolded import unfolded
from tests.checks import Checks
from tests.support import (ALL, EMPTY_WORD, EVEN, FORK, KNOWN, NO_TUPLES, THIRDS, WEAVE, all_words, chain, doubled,
                           random_machines, ring, shuffled, turning_machines)
from tests.test_fewest import BY_FOLD
from tests.test_lines import NO_MACHINES
from tests.test_words import NO_LETTERS, NO_WORDS_OF_2

EXAMPLES = """
>>> from roomlines.unfold.fewest import fewest_lines
>>> SHORT, LONG = Machine(2, ((1, None), (None, 1)), (1,)), Machine(2, ((1, None), (2, None), (3, 2), (None, None)), (3,))
>>> ODD = Machine(2, ((1, 0), (0, 1)), (1,))
>>> [meet(ALL, EVEN) == EVEN, less(ALL, EVEN) == ODD, union_of(EVEN, ODD) == ALL, ended_by(EVEN, (0,)) == ODD, after(EVEN, (0,)) == ODD]
[True, True, True, True, True]
>>> [fewest_lines(SHORT), fewest_lines(LONG), fewest_lines(union_of(SHORT, LONG)), fewest_lines(FORK), fewest_lines(after(FORK, (1,)))]
[1, 1, 2, 1, 2]
>>> [put_ahead(after(FORK, (1,)), (1,)) == FORK, put_ahead(WEAVE, (0,)) == Machine(2, ((1, None), (2, None), (None, 1)), (1,))]
[True, True]
>>> [with_words(WEAVE, ((1,),)) == Machine(2, ((1, 2), (None, 3), (None, None), (1, None)), (0, 2, 3)), without_words(ALL, ((),)) == Machine(2, ((1, 1), (1, 1)), (1,))]
[True, True]
>>> of_words(2, ((0,), (1,), (0,))) == Machine(2, ((1, 1), (None, None)), (1,))
True
>>> meet(SHORT, LONG)
raises Refused(('empty',))
"""
NAMES = {"ALL": ALL, "EVEN": EVEN, "WEAVE": WEAVE, "FORK": FORK, "Machine": Machine}
SHORT = Machine(2, ((1, None), (None, 1)), (1,))
LONGER = Machine(2, ((1, None), (2, None), (3, 2), (None, None)), (3,))
ODD = Machine(2, ((1, 0), (0, 1)), (1,))
DRAWN = (KNOWN + (SHORT, LONGER, ODD) + tuple(random_machines(161, 70)) + tuple(turning_machines(162, 15))
         + tuple(random_machines(163, 60, most_rooms=4, most_letters=2)) + (chain(5, 2), chain(3, 1), ring(4), ring(6)))
LENGTHS = {1: 12, 2: 6, 3: 4, 4: 3}
NO_LOTS = NO_TUPLES + (((0,),) * 21, [(0,)], ((0,), [1]), ((0,), None), (0, 1), ((2,),), ((0,), (0, -1)), ((True,),),
                       ((0,), ("0",)), (((0,),),), ((0,) * 201,), ((0,), (0, 10 ** 60)), ("01",), ((0,), ALL), ({},),
                       ((0,), Endless(2, (0,))))
PAIR_CALLS = (meet, union_of, less)
WORD_CALLS = (ended_by, after, put_ahead)
LOT_CALLS = (with_words, without_words)


def words_in(machine, length):
    """The set of the words of the language with at most so many letters."""
    return {word for word in all_words(machine.letters, length) if machine(word)}


def cycle(rooms, letters=1, good=(0,)):
    """A ring of any number of rooms, as a machine that is returned."""
    return machine_of(letters, tuple(((room + 1) % rooms,) * letters for room in range(rooms)), good)


class LanguageTests(Checks):

    def pairs(self):
        """Pairs of machines with equally many letters."""
        for at, one in enumerate(DRAWN):
            alike = [other for other in DRAWN[at:] + DRAWN[:at] if other.letters == one.letters]
            yield from [(one, other) for other in alike[:6]]

    def test_examples(self):
        self.examples(EXAMPLES, {**vars(module), **NAMES})

    def test_constants(self):
        self.assertEqual((module.MOST_WORDS, module.MOST_ROOMS), (20, 400))

    def test_two_languages(self):
        empty = 0
        for one, other in self.pairs():
            length = LENGTHS[one.letters]
            first, second = words_in(one, length), words_in(other, length)
            for call, words in ((meet, first & second), (union_of, first | second), (less, first - second)):
                try:
                    made = call(one, other)
                except Refused as error:
                    self.assertEqual((error.reason, words), (("empty",), set()))
                    empty += 1
                    continue
                self.assertEqual((least(made), words_in(made, length)), (made, words))
                self.assertLessEqual(made.size, (one.size + 1) * (other.size + 1))
            self.assertEqual(union_of(one, other), union_of(other, one))
        self.assertGreater(empty, 100)

    def test_laws_of_two_languages(self):
        for one, other in self.pairs():
            both = union_of(one, other)
            self.assertEqual((meet(one, both), meet(both, other), union_of(both, one)), (least(one), least(other), both))
            for first, second in ((one, other), (other, one)):
                try:
                    rest = less(first, second)
                except Refused:
                    self.assertEqual(both, least(second))
                    continue
                self.assertEqual(union_of(rest, second), both)
                self.fails_with(Refused, ("empty",), meet, rest, second)
                self.assertEqual(less(both, second), rest)

    def test_equal_languages(self):
        for at, machine in enumerate(DRAWN):
            others = [machine, doubled(machine, at % machine.size), unfolded(machine, 1)]
            if machine.size > 1:
                others.append(shuffled(machine, at))
            for other in others:
                self.assertEqual((meet(machine, other), union_of(machine, other)), (least(machine),) * 2)
                self.fails_with(Refused, ("empty",), less, machine, other)

    def test_ends_and_beginnings(self):
        empty = 0
        for machine in DRAWN:
            length = LENGTHS[machine.letters] - 2
            longer = words_in(machine, length + 2)
            for word in all_words(machine.letters, 2):
                ended = {told[:len(told) - len(word)] for told in longer if told[len(told) - len(word):] == word}
                behind = {told[len(word):] for told in longer if told[:len(word)] == word}
                for call, words in ((ended_by, ended), (after, behind)):
                    words = {told for told in words if len(told) <= length}
                    try:
                        made = call(machine, word)
                    except Refused as error:
                        self.assertEqual((error.reason, words), (("empty",), set()))
                        empty += 1
                        continue
                    self.assertEqual((least(made), words_in(made, length)), (made, words))
                made = put_ahead(machine, word)
                self.assertEqual(words_in(made, length + 2), {word + told for told in longer
                                                              if len(word + told) <= length + 2})
                self.assertEqual((least(made), after(made, word)), (made, least(machine)))
        self.assertGreater(empty, 300)

    def test_the_empty_word(self):
        for machine in DRAWN:
            for call in WORD_CALLS:
                self.assertEqual(call(machine, ()), least(machine))
            for call in LOT_CALLS:
                self.assertEqual(call(machine, ()), least(machine))
            if machine(()):
                self.assertEqual(with_words(machine, ((),)), least(machine))
            else:
                self.assertEqual(without_words(machine, ((),)), least(machine))
        self.assertEqual(of_words(2, ((),)), EMPTY_WORD)
        self.assertEqual(of_words(4, ((), ())), Machine(4, ((None,) * 4,), (0,)))

    def test_deeds_go_together(self):
        for machine in DRAWN:
            words = all_words(machine.letters, 1)
            for one, other in product(words, repeat=2):
                for call, first, second in ((ended_by, other, one), (after, one, other)):
                    try:
                        whole = call(machine, one + other)
                    except Refused:
                        whole = None
                    try:
                        parts = call(call(machine, first), second)
                    except Refused:
                        parts = None
                    self.assertEqual(whole, parts)
                self.assertEqual(put_ahead(put_ahead(machine, other), one), put_ahead(machine, one + other))
                self.assertEqual(after(put_ahead(machine, one + other), one + other), least(machine))

    def test_changes(self):
        for at, machine in enumerate(DRAWN):
            length = LENGTHS[machine.letters]
            words = words_in(machine, length)
            every = all_words(machine.letters, min(length, 3))
            for lot in (every[:3], every[at % len(every):][:5], every[1::2][:20], every[-1:] * 20, (every[0], every[-1]) * 2):
                made = with_words(machine, lot)
                self.assertEqual((least(made), words_in(made, length)), (made, words | set(lot)))
                try:
                    made = without_words(machine, lot)
                except Refused as error:
                    self.assertEqual((error.reason, words - set(lot), has_ends(machine)), (("empty",), set(), True))
                    continue
                self.assertEqual((least(made), words_in(made, length)), (made, words - set(lot)))
            lot = every[at % len(every):][:4]
            fewer = tuple(word for word in lot if not machine(word))
            self.assertEqual(without_words(with_words(machine, lot), fewer), least(machine))
            self.assertEqual(with_words(machine, tuple(word for word in lot if machine(word))), least(machine))

    def test_of_words(self):
        for letters in (1, 2, 3, 4):
            every = all_words(letters, 3)
            for lot in [every[at:at + many] for at in range(len(every)) for many in (1, 2, 5, 20)] + [every[::4][:20]]:
                made = of_words(letters, lot)
                self.assertEqual((least(made), words_in(made, 4)), (made, set(lot)))
                self.assertEqual(of_words(letters, lot[::-1]), made)
                self.assertEqual((language_size(made), made.letters), (len(set(lot)), letters))
                self.assertEqual(fewest_lines(made) if made.size < 7 else 1, 1)
            self.fails_with(Refused, ("empty",), of_words, letters, ())
        self.assertEqual(of_words(2, ((1, 0),)), Machine(2, ((None, 1), (2, None), (None, None)), (2,)))

    def test_fewest_lines(self):
        met = changed = 0
        for one, other in self.pairs():
            try:
                made = meet(one, other)
            except Refused:
                continue
            if max(least(one).size, least(other).size, made.size) < 7:
                met += 1
                self.assertLessEqual(fewest_lines(made), fewest_lines(one) * fewest_lines(other))
        for machine in DRAWN:
            number = fewest_lines(machine)
            for word in all_words(machine.letters, 2):
                try:
                    self.assertLessEqual(fewest_lines(ended_by(machine, word)), number)
                except Refused:
                    pass
                for call in LOT_CALLS:
                    try:
                        made = call(machine, (word, (0,)))
                    except Refused:
                        continue
                    if made.size < 7 and not has_ends(machine):
                        changed += 1
                        self.assertEqual(fewest_lines(made), number)
        self.assertTrue(met > 100 and changed > 500, (met, changed))

    def test_what_is_not_true(self):
        self.assertEqual([fewest_lines(told) for told in (SHORT, LONGER, union_of(SHORT, LONGER))], [1, 1, 2])
        self.assertEqual([fewest_lines(told) for told in (FORK, after(FORK, (1,)), put_ahead(after(FORK, (1,)), (1,)))],
                         [1, 2, 1])


class BoundTests(Checks):

    def test_400_rooms_and_more(self):
        self.assertEqual(meet(ring(16), cycle(25)).size, 400)
        self.assertEqual(meet(ring(16), cycle(25)), cycle(400))
        self.fails_with(TooMany, 400, meet, ring(20), ring(21))
        self.fails_with(TooMany, 400, meet, cycle(400), ring(3))
        self.assertEqual(meet(cycle(400), ring(16)), cycle(400))
        self.assertEqual(union_of(cycle(400), ring(20)), ring(20))
        self.fails_with(Refused, ("empty",), less, cycle(400), ring(3, good=(0, 1, 2)))
        self.fails_with(TooMany, 400, union_of, ring(20), ring(21))
        self.fails_with(TooMany, 400, less, ring(20), ring(21))
        self.fails_with(TooMany, 400, less, cycle(133), ring(4))
        self.assertEqual(less(cycle(100), ring(4, good=(1,))), cycle(100))
        self.assertEqual(union_of(cycle(400, 2), cycle(400, 2, (200,))), cycle(200, 2))
        self.assertEqual(put_ahead(ring(1), (0,) * 200).size, 201)
        long_word = put_ahead(put_ahead(chain(1, 1), (0,) * 200), (0,) * 199)
        self.assertEqual(long_word.size, 400)
        self.assertEqual(language_size(long_word), 1)
        self.assertEqual(with_words(long_word, ((), (0,) * 200)).size, 400)
        self.fails_with(TooMany, 400, put_ahead, long_word, (0,))
        self.assertEqual(ended_by(long_word, (0,)).size, 399)
        self.assertEqual((after(long_word, (0,) * 150).size, after(after(long_word, (0,) * 200), (0,) * 199)),
                         (250, chain(1, 1)))
        self.fails_with(Refused, ("empty",), after, after(long_word, (0,) * 200), (0,) * 200)

    def test_many_long_words(self):
        words = tuple((0,) * at + (1,) + (0,) * (199 - at) for at in range(20))
        self.assertEqual(language_size(of_words(2, words)), 20)
        one, other = (0,) * 200, (1,) * 200
        made = of_words(2, (one, other))
        self.assertEqual((made.size, made(one), made(other), made((0, 1) * 100)), (400, True, True, False))
        self.fails_with(TooMany, 400, of_words, 3, (one, other, (2,) * 200))
        self.fails_with(TooMany, 400, with_words, made, ((0, 1) * 100,))
        self.fails_with(TooMany, 400, with_words, chain(24, 2), (one, other))
        self.fails_with(TooMany, 400, without_words, ring(1, 3), (one, other, (2,) * 200))
        self.assertEqual(without_words(ring(1, 1), (one,)).size, 202)
        self.assertEqual(without_words(made, (other,)), of_words(2, (one,)))
        self.fails_with(Refused, ("empty",), without_words, made, (one, other, one))

    def test_large_machines(self):
        # All pairs of rooms are looked at, and all but a few of them go together.
        one, other = cycle(397, 2, tuple(range(397))), cycle(389, 2, tuple(range(389)))
        self.assertEqual((meet(one, other), union_of(one, other)), (ALL, ALL))
        self.fails_with(Refused, ("empty",), less, one, other)
        wide = unfolded(EVEN, 6)
        self.assertGreater(wide.size, 120)
        self.assertEqual((meet(wide, unfolded(ALL, 7)), less(unfolded(ALL, 7), wide)), (EVEN, ODD))

    def test_tuples_of_20_words_and_21(self):
        lot = ((0,), (1, 1)) * 10
        self.assertEqual(of_words(2, lot), of_words(2, lot[:2]))
        self.assertEqual((with_words(WEAVE, lot), without_words(ALL, lot)),
                         (with_words(WEAVE, lot[:2]), without_words(ALL, lot[:2])))
        for many in (21, 22, 100):
            self.fails(InvalidWord, of_words, 2, ((0,),) * many)
            self.fails(InvalidWord, with_words, WEAVE, ((0,),) * many)
            self.fails(InvalidWord, without_words, ALL, ((0,),) * many)

    def test_words_of_200_letters_and_201(self):
        self.assertEqual(after(ring(3), (0,) * 200), ring(3, good=(1,)))
        self.assertEqual(ended_by(ring(3), (0,) * 200), ring(3, good=(1,)))
        self.assertEqual(put_ahead(ring(3), (0,) * 200)((0,) * 200), True)
        for call in WORD_CALLS:
            self.fails(InvalidWord, call, ring(3), (0,) * 201)
        for call in LOT_CALLS:
            self.fails(InvalidWord, call, ring(3), ((0,), (0,) * 201))
        self.fails(InvalidWord, of_words, 1, ((0,) * 201,))
        self.assertEqual(of_words(1, ((0,) * 200,)).size, 201)


class WrongTests(Checks):

    def test_languages_without_a_word(self):
        for call, *args in ((meet, SHORT, LONGER), (less, EVEN, ALL), (less, FORK, FORK), (ended_by, WEAVE, (0,)),
                            (after, WEAVE, (1,)), (after, EMPTY_WORD, (0,)), (ended_by, EMPTY_WORD, (1,)),
                            (after, WEAVE, (1,) * 200), (without_words, EMPTY_WORD, ((),)), (of_words, 2, ()),
                            (without_words, chain(3, 2), tuple(product((0, 1), repeat=2)))):
            self.fails_with(Refused, ("empty",), call, *args)
        self.fails_with(Refused, ("empty",), less, cycle(399), cycle(399))

    def test_wrong_machines(self):
        for value in NO_MACHINES:
            for call in PAIR_CALLS:
                self.fails(InvalidMachine, call, value, None)
                self.fails(InvalidMachine, call, value, FORK)
                self.fails(InvalidMachine, call, FORK, value)
            for call in WORD_CALLS + LOT_CALLS:
                self.fails(InvalidMachine, call, value, None)
                self.fails(InvalidMachine, call, value, ())

    def test_unlike_numbers_of_letters(self):
        for one, other in ((ALL, FORK), (FORK, ALL), (ring(20), chain(24, 4)), (THIRDS, BY_FOLD[0, 1])):
            for call in PAIR_CALLS:
                self.fails(InvalidOperation, call, one, other)

    def test_wrong_words(self):
        for value in NO_WORDS_OF_2:
            for call in WORD_CALLS:
                self.fails(InvalidWord, call, WEAVE, value)
                self.fails(InvalidWord, call, EMPTY_WORD, value)
            for call in LOT_CALLS:
                self.fails(InvalidWord, call, WEAVE, (value,))
                self.fails(InvalidWord, call, EMPTY_WORD, ((), (0,), value))
            self.fails(InvalidWord, of_words, 2, ((0,), value))
        for value in NO_LOTS:
            for call in LOT_CALLS:
                self.fails(InvalidWord, call, WEAVE, value)
                self.fails(InvalidWord, call, EMPTY_WORD, value)
            self.fails(InvalidWord, of_words, 2, value)

    def test_wrong_letters(self):
        for value in NO_LETTERS:
            for words in (None, (), ((0,),)):
                self.fails_with(InvalidNumber, value, of_words, value, words)
        for letters in (1, 2, 3, 4):
            self.fails(InvalidWord, of_words, letters, ((letters,),))
            self.assertEqual(of_words(letters, ((letters - 1,),)).size, 2)

    def test_returned_machines_can_be_passed_on(self):
        large = cycle(300)
        self.assertEqual((ended_by(large, (0,)), after(large, (0,))), (cycle(300, 1, (299,)),) * 2)
        self.assertEqual((line_number(meet(large, ring(2))), are_alike(meet(large, ring(2)), large)), (300, True))
        self.assertEqual(after(put_ahead(ring(3), (0,) * 200), (0,) * 200), ring(3))
