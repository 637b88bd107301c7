"""[1.2] to [1.5]: words compared from the end."""

from itertools import combinations

from roomlines.base import words as module
from roomlines.base.words import (common_end, compare_words, is_end, is_word, sorted_words, word_at, word_place,
                                  words_of, words_to)
from roomlines.errors import InvalidNumber, InvalidOperation, InvalidWord
from tests.checks import Checks, first_of
from tests.support import ALL, LONG, NO_NUMBERS, NO_TUPLES, TOO_LONG, all_words, by_end

EXAMPLES = """
>>> [compare_words(2, (), (0,)), compare_words(2, (1, 0), (0, 1)), compare_words(2, (1, 0), (0, 0)), compare_words(2, (0,), (0,))]
[-1, -1, 1, 0]
>>> [common_end(3, (2, 1, 0), (1, 0)), is_end(3, (1, 0), (2, 1, 0)), is_end(3, (2, 1, 0), (1, 0)), is_end(3, (), ())]
[2, True, False, True]
>>> [sorted_words(2, ((1,), (0, 1), (0,), (1, 0), (0, 0), (1,))), list(words_of(2, 2)), list(words_to(2, 1))]
[((0,), (0, 0), (1, 0), (1,), (0, 1)), [(0, 0), (1, 0), (0, 1), (1, 1)], [(), (0,), (1,)]]
>>> [word_place(2, 2, (0, 0)), word_place(2, 2, (1,)), word_at(2, 2, 5), word_place(4, 60, ())]
[2, 4, (0, 1), 0]
>>> word_at(2, 1, 3)
raises InvalidOperation
"""
NO_LETTERS = (0, 5, -1, True, False, None, "2", (2,), [2], {2: 2}, TOO_LONG, ALL)
NO_WORDS_OF_2 = NO_TUPLES + ((2,), (0, -1), (True,), (0, False), (None,), ("0",), ((0,),), ([0],), ({},), (0, (1,)),
                             (TOO_LONG,), (0,) * 201, (1, ALL))
LENGTHS = {1: 8, 2: 6, 3: 4, 4: 3}


class ComparingTests(Checks):

    def test_examples(self):
        self.examples(EXAMPLES, dict(vars(module)))

    def test_constants(self):
        told = (module.MAX_LETTERS, module.MAX_WORD, module.MOST_SORTED, module.MOST_LISTED, module.MOST_PLACED)
        self.assertEqual(told, (4, 200, 200, 8, 60))

    def test_is_word(self):
        for letters in (1, 2, 3, 4):
            for value in ((), (0,), (letters - 1,), (0,) * 200, (letters - 1,) * 200):
                self.assertIs(is_word(letters, value), True)
            for value in ((letters,), (0, letters, 0), (0,) * 201, (-1,)):
                self.assertIs(is_word(letters, value), False)
        for value in NO_WORDS_OF_2:
            self.assertIs(is_word(2, value), False)

    def test_compare_like_rows_from_the_end(self):
        for letters in (1, 2, 3, 4):
            listed = all_words(letters, 3)
            for one in listed:
                for other in listed:
                    first, second = one[::-1], other[::-1]
                    told = (first > second) - (first < second)
                    self.assertEqual(compare_words(letters, one, other), told)
                    self.assertEqual(compare_words(letters, other, one), -told)

    def test_longest_words(self):
        one, other = (1,) + (0,) * 199, (0,) * 200
        self.assertEqual(compare_words(2, one, other), 1)
        self.assertEqual(compare_words(2, (0,) * 199, other), -1)
        self.assertEqual(common_end(2, one, other), 199)
        self.assertEqual(common_end(2, other, other), 200)
        self.assertIs(is_end(2, other, other), True)
        self.assertIs(is_end(2, one, other), False)

    def test_order_is_an_order(self):
        listed = all_words(2, 3)
        for one in listed:
            for other in listed:
                self.assertEqual(compare_words(2, one, other) == 0, one == other)
                for third in listed:
                    if compare_words(2, one, other) < 0 and compare_words(2, other, third) < 0:
                        self.assertEqual(compare_words(2, one, third), -1)
            self.assertEqual(compare_words(2, (), one), 0 if one == () else -1)
            self.assertEqual(compare_words(2, one, (0,) + one), -1)

    def test_common_end_and_is_end(self):
        for one in all_words(3, 3):
            for other in all_words(3, 3):
                many = max(many for many in range(4) if many <= min(len(one), len(other))
                           and one[len(one) - many:] == other[len(other) - many:])
                self.assertEqual(common_end(3, one, other), many)
                self.assertIs(is_end(3, one, other), many == len(one))

    def test_ends_keep_the_order(self):
        listed = all_words(2, 2)
        for one, other in combinations(listed, 2):
            for end in listed:
                self.assertEqual(compare_words(2, one + end, other + end), compare_words(2, one, other))
        for one, other in combinations(all_words(2, 3), 2):
            if one and other and one[-1] < other[-1]:
                self.assertEqual(compare_words(2, one, other), -1)

    def test_words_with_an_end_lie_together(self):
        listed = by_end(all_words(2, 4))
        for end in all_words(2, 3):
            places = [at for at, word in enumerate(listed) if is_end(2, end, word)]
            self.assertEqual(places, list(range(places[0], places[-1] + 1)))
            self.assertEqual(listed[places[0]], end)

    def test_what_is_not_true(self):
        self.assertEqual(compare_words(2, (0, 1), (1, 0)), 1)
        last = (0,)
        for word in ((0, 1, 0), (0, 1, 1, 0), (0, 1, 1, 1, 0), (0, 1, 1, 1, 1, 0)):
            self.assertEqual(compare_words(2, last, word), -1)
            self.assertEqual(compare_words(2, word, (0, 1)), -1)
            last = word
        self.assertEqual(compare_words(2, (0,), (0, 0)), -1)
        self.assertEqual(compare_words(2, (1,) + (0,), (1,) + (0, 0)), 1)

    def test_wrong_letters(self):
        for given in NO_LETTERS:
            self.fails_with(InvalidNumber, given, is_word, given, None)
            for call in (compare_words, common_end, is_end):
                self.fails_with(InvalidNumber, given, call, given, None, None)

    def test_wrong_words(self):
        for value in NO_WORDS_OF_2:
            for call in (compare_words, common_end, is_end):
                self.fails(InvalidWord, call, 2, value, ())
                self.fails(InvalidWord, call, 2, (), value)
                self.fails(InvalidWord, call, 2, value, value)


class SortedTests(Checks):

    def test_each_once_in_order(self):
        for letters, length in LENGTHS.items():
            listed = all_words(letters, length)[:100]
            told = tuple(by_end(listed))
            self.assertEqual(sorted_words(letters, tuple(listed)), told)
            self.assertEqual(sorted_words(letters, tuple(listed[::-1] + listed)), told)

    def test_edges(self):
        self.assertEqual(sorted_words(1, ()), ())
        self.assertEqual(sorted_words(4, ((),)), ((),))
        self.assertEqual(sorted_words(2, ((1,),) * 200), ((1,),))
        self.fails(InvalidWord, sorted_words, 2, ((1,),) * 201)
        self.assertEqual(sorted_words(1, ((0,) * 200, ())), ((), (0,) * 200))
        self.fails(InvalidWord, sorted_words, 1, ((0,) * 201,))

    def test_wrong_values(self):
        for value in NO_TUPLES:
            self.fails(InvalidWord, sorted_words, 2, value)
        for value in NO_WORDS_OF_2:
            self.fails(InvalidWord, sorted_words, 2, (value,))
            self.fails(InvalidWord, sorted_words, 2, ((), (1, 0), value))
        for given in NO_LETTERS:
            self.fails_with(InvalidNumber, given, sorted_words, given, None)


class ListedTests(Checks):

    def test_all_words_in_order(self):
        for letters, longest in LENGTHS.items():
            for length in range(longest + 1):
                told = by_end(all_words(letters, length))
                self.assertEqual(list(words_to(letters, length)), told)
                self.assertEqual(list(words_of(letters, length)), [word for word in told if len(word) == length])
                self.assertEqual(len(told), sum(letters ** many for many in range(length + 1)))

    def test_what_comes_behind_a_word(self):
        listed = list(words_to(3, 4))
        for at, word in enumerate(listed):
            if len(word) < 4:
                self.assertEqual(listed[at + 1], (0,) + word)
                ended = [other for other in listed if is_end(3, word, other)]
                self.assertEqual(listed[at:at + len(ended)], ended)

    def test_edges(self):
        for letters in (1, 2, 3, 4):
            self.assertEqual(list(words_of(letters, 0)), [()])
            self.assertEqual(list(words_to(letters, 0)), [()])
        self.assertEqual(list(words_of(1, 8)), [(0,) * 8])
        self.assertEqual(list(words_to(1, 8)), [(0,) * many for many in range(9)])
        listed = list(words_of(4, 8))
        self.assertEqual((len(listed), listed[0], listed[1], listed[-1]),
                         (4 ** 8, (0,) * 8, (1,) + (0,) * 7, (3,) * 8))
        self.assertEqual(sum(1 for _ in words_to(4, 8)), (4 ** 9 - 1) // 3)

    def test_wrong_values_are_told_with_the_first_word(self):
        for generator in (words_of, words_to):
            for given in NO_NUMBERS + (9, LONG):
                self.fails_with(InvalidNumber, given, first_of(generator), 2, given)
            for given in NO_LETTERS:
                self.fails_with(InvalidNumber, given, first_of(generator), given, 9)


class PlaceTests(Checks):

    def test_places_of_all_words(self):
        for letters, length in LENGTHS.items():
            for place, word in enumerate(by_end(all_words(letters, length))):
                self.assertEqual(word_place(letters, length, word), place)
                self.assertEqual(word_at(letters, length, place), word)

    def test_greatest_places(self):
        for letters in (1, 2, 3, 4):
            for length in (0, 1, 59, 60):
                many = sum(letters ** power for power in range(length + 1))
                last = (letters - 1,) * length
                self.assertEqual(word_at(letters, length, many - 1), last)
                self.assertEqual(word_place(letters, length, last), many - 1)
                self.assertEqual(word_at(letters, length, 0), ())
                for number in (many, many + 1, LONG, TOO_LONG - 1):
                    self.fails(InvalidOperation, word_at, letters, length, number)
        self.assertEqual(len(str(word_place(4, 60, (3,) * 60))), 37)

    def test_there_and_back(self):
        for number in range(0, (4 ** 61 - 1) // 3, 10 ** 34 + 7):
            self.assertEqual(word_place(4, 60, word_at(4, 60, number)), number)

    def test_wrong_lengths(self):
        for given in NO_NUMBERS + (61, LONG):
            self.fails_with(InvalidNumber, given, word_place, 2, given, ())
            self.fails_with(InvalidNumber, given, word_at, 2, given, 0)

    def test_wrong_words_and_numbers(self):
        for value in NO_WORDS_OF_2:
            self.fails(InvalidWord, word_place, 2, 60, value)
        self.fails(InvalidOperation, word_place, 2, 1, (0, 0))
        self.fails(InvalidOperation, word_place, 2, 60, (0,) * 61)
        self.fails(InvalidOperation, word_place, 2, 60, (0,) * 200)
        self.fails(InvalidWord, word_place, 2, 60, (0,) * 201)
        self.assertEqual(word_place(1, 60, (0,) * 60), 60)
        for given in NO_NUMBERS:
            self.fails_with(InvalidNumber, given, word_at, 2, 60, given)

    def test_the_first_error_is_told(self):
        for call in (word_place, word_at):
            for given in NO_LETTERS:
                self.fails_with(InvalidNumber, given, call, given, 61, None)
            self.fails_with(InvalidNumber, 61, call, 2, 61, None)
            self.fails_with(InvalidNumber, None, call, 2, None, None)
        self.fails(InvalidWord, word_place, 2, 0, (2, 2))
        self.fails_with(InvalidNumber, TOO_LONG, word_at, 2, 0, TOO_LONG)
