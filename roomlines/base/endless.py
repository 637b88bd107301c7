"""Endless words: a ring again and again, and behind it a tail."""

from roomlines.base.checks import check_number
from roomlines.base.words import MAX_WORD, check_letters, check_word, count_common, is_spelled, order_words
from roomlines.errors import InvalidHeight, InvalidOperation

MAX_END = 1000
MOST_ENDS = 60


def _root(word):
    """The root of a word of any length other than ()."""
    for many in range(1, len(word)):
        if len(word) % many == 0 and word[:many] * (len(word) // many) == word:
            return word[:many]
    return word


def _kept(ring, tail):
    """The pair of the ring and the tail of the form that is kept."""
    root = _root(ring)
    many = 0
    while many < len(tail) and tail[many] == root[many % len(root)]:
        many += 1
    turned = many % len(root)
    return root[turned:] + root[:turned], tail[many:]


def _spaced(word):
    """The letters of a word with blanks between them."""
    return " ".join([str(letter) for letter in word])


def _following(word):
    """The letters of a word, each behind a blank."""
    return "".join([f" {letter}" for letter in word])


class Endless:
    """An endless word. It never changes."""

    def __init__(self, letters, ring, *, tail=()):
        check_letters(letters)
        check_word(letters, ring)
        check_word(letters, tail)
        if ring == ():
            raise InvalidOperation("a ring has letters")
        kept_ring, kept_tail = _kept(ring, tail)
        self._letters = letters
        self._ring = kept_ring
        self._tail = kept_tail

    @property
    def letters(self):
        """The number of the letters."""
        return self._letters

    @property
    def ring(self):
        """The ring of the form that is kept."""
        return self._ring

    @property
    def tail(self):
        """The tail of the form that is kept."""
        return self._tail

    def end(self, many):
        """The word of so many last letters."""
        check_number(many, 0, MAX_END)
        return last_letters(self, many)

    def __add__(self, other):
        """The endless word with a word behind it."""
        if not isinstance(other, tuple):
            raise TypeError("only a word can be put behind an endless word")
        check_word(self._letters, other)
        return endless_of(self._letters, self._ring, self._tail + other)

    def __eq__(self, other):
        return (isinstance(other, Endless) and self._letters == other._letters
                and self._ring == other._ring and self._tail == other._tail)

    def __len__(self):
        return len(self._ring + self._tail)

    def __str__(self):
        return f"..({_spaced(self._ring)}){_following(self._tail)}"


def endless_of(letters, ring, tail):
    """The endless word with a ring and a tail of any length."""
    made = Endless(letters, (0,))
    kept_ring, kept_tail = _kept(ring, tail)
    made._ring = kept_ring
    made._tail = kept_tail
    return made


def last_letters(height, many):
    """The word of so many last letters of a height; a word that has fewer is it itself."""
    if not isinstance(height, Endless):
        return height[max(0, len(height) - many):]
    repeats = many // len(height.ring) + 1
    word = height.ring * repeats + height.tail
    return word[len(word) - many:]


def _telling_ends(one, other):
    """Ends of two heights that are compared as the heights are, and agree in as many last letters."""
    # Endless words are equal if they agree in the letters of both rings and of the longer tail.
    many = len(one) + len(other)
    return last_letters(one, many), last_letters(other, many)


def order_heights(one, other):
    """-1, 0 or 1, as one height of any length is ahead of the other, equal to it or behind it."""
    first, second = _telling_ends(one, other)
    return order_words(first, second)


def count_agreeing(one, other):
    """How many last letters two heights of any length have in common; None for equal endless words."""
    if isinstance(one, Endless) and one == other:
        return None
    first, second = _telling_ends(one, other)
    return count_common(first, second)


def root_of(letters, word):
    """The pair of the root of a word and of how often it stands in it."""
    check_letters(letters)
    check_word(letters, word)
    if word == ():
        raise InvalidOperation("the word () has no root")
    root = _root(word)
    return root, len(word) // len(root)


def _is_height_of(letters, value):
    """Whether the value is a height of letters that are known to be right."""
    if isinstance(value, Endless):
        return value.letters == letters
    return is_spelled(letters, value, MAX_WORD)


def _check_height(letters, height):
    """Raise InvalidHeight unless the value is a height of the letters."""
    if not _is_height_of(letters, height):
        raise InvalidHeight("no height of the letters")


def _check_heights(letters, one, other):
    """Raise the errors of letters and of two heights."""
    check_letters(letters)
    _check_height(letters, one)
    _check_height(letters, other)


def is_height(letters, value):
    """Whether the value is a word or an endless word of the letters."""
    check_letters(letters)
    return _is_height_of(letters, value)


def compare(letters, one, other):
    """-1, 0 or 1, as one height is ahead of the other, equal to it, or behind it."""
    _check_heights(letters, one, other)
    return order_heights(one, other)


def ends_with(letters, height, word):
    """Whether the word is an end of the height."""
    check_letters(letters)
    _check_height(letters, height)
    check_word(letters, word)
    return last_letters(height, len(word)) == word


def agree(letters, one, other):
    """How many last letters two heights have in common; None for two equal endless words."""
    _check_heights(letters, one, other)
    return count_agreeing(one, other)


def each_end(letters, height, many):
    """Yield the ends of a height with 0 to many letters, the shorter ones first."""
    check_letters(letters)
    _check_height(letters, height)
    check_number(many, 0, MOST_ENDS)
    longest = last_letters(height, many)
    for length in range(len(longest) + 1):
        yield longest[len(longest) - length:]
