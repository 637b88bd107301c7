"""Words, compared from the end."""

from roomlines.base.checks import check_count, check_number, is_number
from roomlines.errors import InvalidOperation, InvalidWord

MAX_LETTERS = 4
MAX_WORD = 200
MOST_SORTED = 200
MOST_LISTED = 8
MOST_PLACED = 60


def check_letters(letters):
    """Raise InvalidNumber unless there are so many letters."""
    check_number(letters, 1, MAX_LETTERS)


def is_spelled(letters, value, most):
    """Whether the value is a word of the letters with at most so many of them."""
    if not isinstance(value, tuple) or len(value) > most:
        return False
    return all([is_number(letter, 0, letters - 1) for letter in value])


def check_word(letters, word):
    """Raise InvalidWord unless the value is a word of the letters."""
    if not is_spelled(letters, word, MAX_WORD):
        raise InvalidWord("no word of the letters")


def check_both(letters, one, other):
    """Raise the errors of letters and of two words."""
    check_letters(letters)
    check_word(letters, one)
    check_word(letters, other)


def order_words(one, other):
    """-1, 0 or 1, as one word of any length is ahead of the other, equal to it or behind it."""
    if one == other:
        return 0
    return -1 if one[::-1] < other[::-1] else 1


def count_common(one, other):
    """The number of the last letters in which two words of any length agree."""
    most = min(len(one), len(other))
    many = 0
    while many < most and one[len(one) - 1 - many] == other[len(other) - 1 - many]:
        many += 1
    return many


def is_word(letters, value):
    """Whether the value is a word of the letters with at most 200 letters."""
    check_letters(letters)
    return is_spelled(letters, value, MAX_WORD)


def compare_words(letters, one, other):
    """-1 if one is ahead of other, 1 if it is behind, 0 if both are equal."""
    check_both(letters, one, other)
    return order_words(one, other)


def common_end(letters, one, other):
    """The number of the last letters in which both words agree."""
    check_both(letters, one, other)
    return count_common(one, other)


def is_end(letters, one, other):
    """Whether the word one is an end of the word other."""
    check_both(letters, one, other)
    return count_common(one, other) == len(one)


def in_order(words):
    """The tuple of words of any lengths in order, each once."""
    backwards = sorted({word[::-1] for word in words})
    return tuple([word[::-1] for word in backwards])


def sorted_words(letters, words):
    """The words of a tuple in order, each once."""
    check_letters(letters)
    if not isinstance(words, tuple) or len(words) > MOST_SORTED:
        raise InvalidWord("no tuple of at most 200 words")
    for word in words:
        check_word(letters, word)
    return in_order(words)


def _raised(letters, word):
    """The word without the greatest letters ahead, its first letter one more; None if none is left."""
    for at, letter in enumerate(word):
        if letter < letters - 1:
            return (letter + 1,) + word[at + 1:]
    return None


def words_of(letters, length):
    """Yield all words of the length, in order."""
    check_letters(letters)
    check_number(length, 0, MOST_LISTED)
    word = (0,) * length
    while word is not None:
        yield word
        raised = _raised(letters, word)
        word = None if raised is None else (0,) * (length - len(raised)) + raised


def words_to(letters, length):
    """Yield all words of at most the length, in order."""
    check_letters(letters)
    check_number(length, 0, MOST_LISTED)
    word = ()
    while word is not None:
        yield word
        word = (0,) + word if len(word) < length else _raised(letters, word)


def _sizes(letters, length):
    """How many words there are of at most 0, 1, .. length letters."""
    sizes = [1]
    for _ in range(length):
        sizes.append(sizes[-1] * letters + 1)
    return sizes


def word_place(letters, length, word):
    """The index of a word among all words of at most the length, in order."""
    check_letters(letters)
    check_number(length, 0, MOST_PLACED)
    check_word(letters, word)
    if len(word) > length:
        raise InvalidOperation("the word is longer than the length")
    sizes = _sizes(letters, length)
    place = 0
    for done, letter in enumerate(word[::-1]):
        place += 1 + letter * sizes[length - done - 1]
    return place


def word_at(letters, length, number):
    """The word at an index among all words of at most the length, in order."""
    check_letters(letters)
    check_number(length, 0, MOST_PLACED)
    check_count(number)
    sizes = _sizes(letters, length)
    if number >= sizes[length]:
        raise InvalidOperation("there are not so many words")
    word = ()
    left = number
    while left > 0:
        # The end itself comes first, then a block of equal size for each letter ahead of it.
        letter, left = divmod(left - 1, sizes[length - len(word) - 1])
        word = (letter,) + word
    return word
