"""[2.1] to [2.5]: endless words and heights."""

from itertools import product

from roomlines.base import endless as module
from roomlines.base.endless import Endless, agree, compare, each_end, ends_with, is_height, root_of
from roomlines.errors import InvalidHeight, InvalidNumber, InvalidOperation, InvalidWord
from tests.checks import Checks, first_of
from tests.support import ALL, LONG, NO_NUMBERS, TOO_LONG, all_words, plain_order, spread
from tests.test_words import NO_LETTERS, NO_WORDS_OF_2

EXAMPLES = """
>>> BACK, ONES, ZEROS = Endless(2, (0, 1, 0, 1), tail=(0,)), Endless(2, (1,)), Endless(2, (0,), tail=(1,))
>>> [BACK.ring, BACK.tail, str(BACK), len(ZEROS), str(ZEROS), BACK == Endless(2, (1, 0)), BACK == (1, 0)]
[(1, 0), (), '..(1 0)', 2, '..(0) 1', True, False]
>>> [BACK.end(5), ZEROS.end(3), BACK + (1,) == Endless(2, (0, 1)), str(ONES + (0, 1)), root_of(3, (2, 0, 2, 0)), ONES.end(0)]
[(0, 1, 0, 1, 0), (0, 0, 1), True, '..(1) 0 1', ((2, 0), 2), ()]
>>> [compare(2, (0,), BACK), compare(2, BACK, (1,)), compare(2, ONES, (0, 1, 1)), compare(2, ZEROS, ZEROS), compare(2, (), ()), compare(2, ZEROS, (0, 0, 1))]
[-1, -1, 1, 0, 0, 1]
>>> [agree(2, ONES, ZEROS), agree(2, BACK, Endless(2, (0, 1))), agree(2, ONES, ONES), agree(2, (1, 0), (0, 0)), ends_with(2, BACK, (0, 1, 0)), list(each_end(2, ZEROS, 2))]
[1, 0, None, 1, True, [(), (1,), (0, 1)]]
>>> Endless(2, ())
raises InvalidOperation
"""
ONES = Endless(2, (1,))
NO_WORDS = tuple(value for value in NO_WORDS_OF_2 if not isinstance(value, Endless))
NO_HEIGHTS = NO_WORDS + (Endless(1, (0,)), Endless(3, (0,)), (ONES,))


def rings_and_tails(letters, longest, longest_tail):
    """Endless words of all rings and tails of some lengths."""
    return [(ring, tail, Endless(letters, ring, tail=tail))
            for ring in all_words(letters, longest)[1:] for tail in all_words(letters, longest_tail)]


class FormTests(Checks):

    def test_examples(self):
        self.examples(EXAMPLES, dict(vars(module)))

    def test_constants(self):
        self.assertEqual((module.MAX_END, module.MOST_ENDS), (1000, 60))

    def test_roots(self):
        for letters, length in ((1, 6), (2, 8), (3, 5), (4, 4)):
            for word in all_words(letters, length)[1:]:
                root, many = root_of(letters, word)
                self.assertEqual(root * many, word)
                shorter = [part for size in range(1, len(root)) for part in [word[:size]]
                           if part * (len(word) // size) == word]
                self.assertEqual(shorter, [])
        self.assertEqual(root_of(1, (0,) * 200), ((0,), 200))
        self.assertEqual(root_of(4, (3, 2) * 100), ((3, 2), 100))
        self.assertEqual(root_of(2, (0,) * 199 + (1,)), ((0,) * 199 + (1,), 1))

    def test_kept_form(self):
        for letters, longest, longest_tail in ((1, 4, 3), (2, 4, 3), (3, 3, 2), (4, 2, 2)):
            for ring, tail, told in rings_and_tails(letters, longest, longest_tail):
                self.assertEqual(told.letters, letters)
                self.assertEqual(root_of(letters, told.ring), (told.ring, 1))
                self.assertTrue(told.tail == () or told.tail[0] != told.ring[0])
                self.assertLessEqual(len(told.ring), len(ring))
                self.assertLessEqual(len(told.tail), len(tail))
                self.assertEqual(told.end(30), ((ring * 30) + tail)[-30:])
                self.assertEqual(len(told), len(told.ring) + len(told.tail))

    def test_told_by_several_forms(self):
        told = Endless(3, (0, 1, 2), tail=(1,))
        for ring, tail in (((0, 1, 2), (1,)), ((0, 1, 2) * 5, (1,)), ((1, 2, 0), (1, 2, 1)), ((2, 0, 1), (2, 1)),
                           ((0, 1, 2) * 2, (0, 1, 2, 0, 1, 2, 1)), ((1, 2, 0) * 66, (1, 2) + (0, 1, 2) * 60 + (1,))):
            same = Endless(3, ring, tail=tail)
            self.assertEqual((same.ring, same.tail, str(same)), ((0, 1, 2), (1,), "..(0 1 2) 1"))
            self.assertIs(same == told, True)
            self.assertIs(same != told, False)
        self.assertEqual(str(Endless(4, (3,) * 200, tail=(3,) * 200)), "..(3)")
        self.assertEqual(str(Endless(2, (0, 1), tail=(0, 1, 1, 0))), "..(0 1) 1 0")

    def test_equal_exactly_if_one_end_is(self):
        told = [made for _, _, made in rings_and_tails(2, 3, 2)]
        for one, other in product(told, repeat=2):
            many = max(len(one.tail), len(other.tail)) + len(one.ring) + len(other.ring)
            self.assertIs(one == other, one.end(many) == other.end(many))
            self.assertIs(one == other, (one.ring, one.tail) == (other.ring, other.tail))
            self.assertIs(one != other, not one == other)

    def test_equal_to_nothing_else(self):
        told = Endless(2, (0, 1))
        for value in (None, True, 0, "", "..(0 1)", (), (0, 1), [0, 1], {0: 1}, ALL, Endless(3, (0, 1)), ONES):
            self.assertIs(told == value, False)
            self.assertIs(told != value, True)

    def test_first_error_of_endless(self):
        for given in NO_LETTERS:
            self.fails_with(InvalidNumber, given, Endless, given, None, tail=None)
        for value in NO_WORDS_OF_2:
            self.fails(InvalidWord, Endless, 2, value)
            self.fails(InvalidWord, Endless, 2, value, tail=(2,))
            self.fails(InvalidWord, Endless, 2, (1,), tail=value)
            self.fails(InvalidWord, Endless, 2, (), tail=value)
        self.fails(InvalidOperation, Endless, 2, (), tail=(0, 1))
        self.fails(TypeError, lambda: Endless(2, (0,), (1,)))

    def test_longest_ring_and_tail(self):
        ring, tail = (0,) * 199 + (1,), (1,) * 200
        told = Endless(2, ring, tail=tail)
        self.assertEqual((told.ring, told.tail, len(told)), (ring, tail, 400))
        self.assertEqual(told.end(1000), (ring * 4 + tail)[-1000:])
        self.fails(InvalidWord, Endless, 2, ring + (0,))
        self.fails(InvalidWord, Endless, 2, ring, tail=tail + (0,))


class ObjectTests(Checks):

    def test_ends(self):
        told = Endless(3, (0, 1), tail=(2,))
        self.assertEqual([told.end(many) for many in (0, 1, 2, 3, 4)], [(), (2,), (1, 2), (0, 1, 2), (1, 0, 1, 2)])
        self.assertEqual(told.end(1000), ((0, 1) * 500 + (2,))[-1000:])
        for given in NO_NUMBERS + (1001, LONG):
            self.fails_with(InvalidNumber, given, told.end, given)

    def test_words_set_behind(self):
        for ring, tail, told in rings_and_tails(2, 3, 2):
            for word in all_words(2, 3):
                further = told + word
                self.assertEqual(further.end(30), (ring * 30 + tail + word)[-30:])
                self.assertTrue(further == Endless(2, ring, tail=tail + word))
                self.assertTrue(told == Endless(2, ring, tail=tail))

    def test_growing_beyond_200_letters(self):
        told = Endless(2, (0,) * 199 + (1,), tail=(1,) * 200)
        longer = told + (0,) * 200
        self.assertEqual((len(longer.tail), len(longer), longer.ring), (400, 600, told.ring))
        longer = longer + (1, 0) * 100
        self.assertEqual(longer.tail, (1,) * 200 + (0,) * 200 + (1, 0) * 100)
        self.assertEqual(longer.end(700), (0,) * 99 + (1,) + longer.tail)
        self.assertEqual(compare(2, longer, told), -1)
        self.assertEqual(compare(2, longer, longer + ()), 0)
        self.assertEqual(agree(2, longer, (1, 0) * 100), 200)
        self.assertIs(ends_with(2, longer, (1, 0) * 100), True)
        self.assertIs(is_height(2, longer), True)
        self.assertEqual(len(list(each_end(2, longer, 60))), 61)
        turned = Endless(2, told.ring) + (0,) * 100
        self.assertEqual((turned.ring, turned.tail), (told.ring[100:] + told.ring[:100], ()))
        whole = longer
        for _ in range(5):
            whole = whole + (1,) * 200
        self.assertEqual((len(whole), whole.end(1000)), (1800, (1,) * 1000))

    def test_wrong_words_set_behind(self):
        for value in NO_WORDS_OF_2:
            error = InvalidWord if isinstance(value, tuple) else TypeError
            self.fails(error, lambda: ONES + value)
        for value in ((), (0, 1), None, 1, "", [1]):
            self.fails(TypeError, lambda: value + ONES)
        self.fails(TypeError, lambda: ONES + ONES)
        self.fails(TypeError, lambda: ONES * 2)
        self.fails(TypeError, lambda: ONES < Endless(2, (0,)))

    def test_never_changes(self):
        told = Endless(2, (0, 1), tail=(1,))
        for name in ("letters", "ring", "tail"):
            self.fails(AttributeError, setattr, told, name, 1)
        later = told
        later += (0,)
        self.assertEqual((str(told), str(later)), ("..(0 1) 1", "..(0 1) 1 0"))

    def test_not_iterated_over(self):
        self.fails(TypeError, lambda: list(ONES))
        self.fails(TypeError, lambda: 1 in ONES)
        self.fails(TypeError, lambda: ONES[0])

    def test_texts(self):
        self.assertEqual([str(Endless(1, (0, 0))), str(Endless(4, (3, 2, 1, 0), tail=(0, 3)))],
                         ["..(0)", "..(3 2 1 0) 0 3"])


class HeightTests(Checks):

    def heights(self, letters, longest, longest_tail, length):
        """Some words and endless words, unlike one another."""
        found = list(all_words(letters, length))
        for _, _, made in rings_and_tails(letters, longest, longest_tail):
            if not any(made == other for other in found):
                found.append(made)
        return found

    def test_compare_and_agree(self):
        for letters, longest, longest_tail, length in ((1, 2, 1, 5), (2, 3, 2, 3), (3, 2, 1, 2), (4, 1, 1, 2)):
            told = self.heights(letters, longest, longest_tail, length)
            for one, other in product(told, repeat=2):
                self.assertEqual(compare(letters, one, other), plain_order(one, other, 40))
                self.assertEqual(compare(letters, one, other) == 0, one is other)
                first, second = spread(one, 40), spread(other, 40)
                many = 0
                while many < min(len(first), len(second)) and first[many] == second[many]:
                    many += 1
                same = one is other and isinstance(one, Endless)
                self.assertEqual(agree(letters, one, other), None if same else many)

    def test_long_rings_that_agree_far(self):
        one, other = Endless(2, (1,) + (0,) * 198), Endless(2, (1,) + (0,) * 199)
        self.assertEqual(agree(2, one, other), 198)
        self.assertEqual(compare(2, one, other), 1)
        one, other = one + (1,) * 200, one + (0,) + (1,) * 200
        self.assertEqual((agree(2, one, other), compare(2, one, other)), (398, 1))

    def test_words_behind_keep_the_order(self):
        told = self.heights(2, 2, 1, 2)
        for one, other in product(told, repeat=2):
            for word in all_words(2, 2):
                self.assertEqual(compare(2, one + word, other + word), compare(2, one, other))

    def test_ends_are_ahead(self):
        for _, _, told in rings_and_tails(2, 3, 2):
            ends = list(each_end(2, told, 60))
            self.assertEqual(ends, [told.end(many) for many in range(61)])
            for shorter, longer in zip(ends, ends[1:]):
                self.assertEqual(compare(2, shorter, longer), -1)
                self.assertEqual(compare(2, longer, told), -1)
                self.assertIs(ends_with(2, told, longer), True)

    def test_ends_of_words(self):
        for word in all_words(3, 3):
            for many in range(6):
                told = [word[len(word) - size:] for size in range(min(many, len(word)) + 1)]
                self.assertEqual(list(each_end(3, word, many)), told)
        self.assertEqual(list(each_end(2, ONES, 0)), [()])
        self.assertEqual(len(list(each_end(2, (0,) * 200, 60))), 61)
        for one in all_words(2, 3):
            for other in all_words(2, 3):
                self.assertIs(ends_with(2, one, other), one[len(one) - len(other):] == other
                              if len(other) <= len(one) else False)
        self.assertIs(ends_with(1, Endless(1, (0,)), (0,) * 200), True)
        self.assertIs(ends_with(2, Endless(2, (0,), tail=(1,)), (1,) + (0,) * 100 + (1,)), False)

    def test_is_height(self):
        for value in ((), (0, 1), (1,) * 200, ONES):
            self.assertIs(is_height(2, value), True)
        for value in NO_HEIGHTS:
            self.assertIs(is_height(2, value), False)
        for letters in (1, 2, 3, 4):
            self.assertIs(is_height(letters, Endless(letters, (letters - 1,))), True)

    def test_what_is_not_true(self):
        for _, _, told in rings_and_tails(2, 2, 2):
            self.assertFalse(compare(2, (), told) < 0 and compare(2, told, (0,)) < 0)
        for word in all_words(2, 4):
            self.assertFalse(compare(2, (), word) < 0 and compare(2, word, (0,)) < 0)
        told = Endless(2, (0, 0, 1), tail=(0,))
        self.assertEqual((len(told.ring), compare(2, told, (1,))), (3, -1))
        self.assertFalse(Endless(2, (0, 1)) == Endless(2, (1, 0)))

    def test_errors_of_heights(self):
        for given in NO_LETTERS:
            self.fails_with(InvalidNumber, given, is_height, given, None)
            self.fails_with(InvalidNumber, given, root_of, given, None)
            for call in (compare, agree, ends_with, first_of(each_end)):
                self.fails_with(InvalidNumber, given, call, given, None, None)
        for value in NO_HEIGHTS:
            for call in (compare, agree):
                self.fails(InvalidHeight, call, 2, value, None)
                self.fails(InvalidHeight, call, 2, value, (0,))
                self.fails(InvalidHeight, call, 2, (0,), value)
                self.fails(InvalidHeight, call, 2, ONES, value)
            self.fails(InvalidHeight, ends_with, 2, value, None)
            self.fails(InvalidHeight, first_of(each_end), 2, value, 61)

    def test_errors_behind_heights(self):
        for value in NO_WORDS_OF_2:
            self.fails(InvalidWord, ends_with, 2, ONES, value)
            self.fails(InvalidWord, root_of, 2, value)
        self.fails(InvalidOperation, root_of, 2, ())
        for given in NO_NUMBERS + (61, LONG, TOO_LONG):
            self.fails_with(InvalidNumber, given, first_of(each_end), 2, (), given)
