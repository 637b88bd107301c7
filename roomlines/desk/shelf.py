"""A shelf of texts: a finite lot of words that deeds change, and the machine of the lots of their beginnings."""

from roomlines.base.checks import check_count
from roomlines.base.words import check_letters, check_word, in_order, is_spelled, order_words
from roomlines.deeds.languages import tree_of
from roomlines.errors import InvalidOperation, NothingToUndo, Refused, TooMany
from roomlines.mach.least import futures
from roomlines.mach.machines import machine_of, room_behind

MOST_TEXTS = 40
MOST_LENGTH = 20
_MOST_ROOMS = 400


def _check_sizes(words, many):
    """Raise the errors of words that are too long, and of too many texts."""
    if any([len(word) > MOST_LENGTH for word in words]):
        raise TooMany(MOST_LENGTH)
    if many > MOST_TEXTS:
        raise TooMany(MOST_TEXTS)


def _lots(words, sorts):
    """The list of the lists of neighbours of one sort, of words in order."""
    lots = []
    for word in words:
        if lots and sorts[lots[-1][0]] == sorts[word]:
            lots[-1].append(word)
        else:
            lots.append([word])
    return lots


def _machine_of_texts(letters, texts):
    """The machine whose rooms are the lots of the beginnings of some texts, in order; it can have any number of rooms.

    All beginnings of a finite language are known, so neighbours with one future are in one lot.
    """
    tree = tree_of(letters, texts)
    told = futures(tree)
    words = in_order([text[:many] for text in texts for many in range(len(text) + 1)])
    lots = _lots(words, {word: told[room_behind(tree, 0, word)] for word in words})
    place = {word: at for at, lot in enumerate(lots) for word in lot}
    doors = tuple([tuple([place.get(lot[0] + (letter,)) for letter in range(letters)]) for lot in lots])
    return machine_of(letters, doors, tuple(sorted(set([place[text] for text in texts]))))


class Shelf:
    """A shelf of texts. Deeds change it."""

    def __init__(self, letters):
        check_letters(letters)
        self._letters = letters
        self._texts = ()
        # The texts ahead of all deeds and behind each one, also behind those that are taken back.
        self._states = ((),)
        self._at = 0

    @property
    def letters(self):
        """The number of the letters."""
        return self._letters

    @property
    def texts(self):
        """The tuple of the texts, in order."""
        return self._texts

    @property
    def deeds(self):
        """How many deeds can be taken back."""
        return self._at

    def _change(self, texts):
        """Make the words the texts, as a deed, and return their number."""
        self._states = self._states[:self._at + 1] + (texts,)
        return self._go(1)

    def _go(self, steps):
        """Go so many deeds on, or back below 0, and return the number of texts."""
        self._at = self._at + steps
        self._texts = self._states[self._at]
        return len(self._texts)

    def put(self, word):
        """A text more."""
        check_word(self._letters, word)
        if word in self._texts:
            raise InvalidOperation("the word is a text")
        _check_sizes([word], len(self._texts) + 1)
        return self._change(in_order(self._texts + (word,)))

    def take(self, word):
        """A text less."""
        check_word(self._letters, word)
        if word not in self._texts:
            raise InvalidOperation("the word is no text")
        return self._change(tuple([text for text in self._texts if text != word]))

    def put_all(self, *words):
        """All words that are no texts yet, at once."""
        for word in words:
            check_word(self._letters, word)
        texts = in_order(self._texts + words)
        _check_sizes(words, len(texts))
        return len(texts) if texts == self._texts else self._change(texts)

    def clear(self):
        """No texts are left."""
        return self._change(()) if self._texts else 0

    def undo(self, *, times=1):
        """Take back deeds."""
        check_count(times)
        if times > self._at:
            raise NothingToUndo(times)
        return self._go(-times)

    def redo(self, *, times=1):
        """Do deeds again that were taken back."""
        check_count(times)
        if times >= len(self._states) - self._at:
            raise NothingToUndo(times)
        return self._go(times)

    def machine(self):
        """The machine of the shelf: its rooms are the lots of the beginnings of the texts."""
        if not self._texts:
            raise Refused(("empty",))
        made = _machine_of_texts(self._letters, self._texts)
        if made.size > _MOST_ROOMS:
            raise TooMany(_MOST_ROOMS)
        return made

    def texts_ending(self, word):
        """Yield the texts with an end, in order."""
        check_word(self._letters, word)
        for text in self._texts:
            if text[max(0, len(text) - len(word)):] == word:
                yield text

    def finds(self, word):
        """The tuple of the pairs (text, place) at which the word stands, by the order of their spots."""
        check_word(self._letters, word)
        found = [(text, at) for text in self._texts for at in range(len(text) - len(word) + 1)
                 if text[at:at + len(word)] == word]
        keyed = sorted([(text[:at + len(word)][::-1], text[::-1], at) for text, at in found])
        return tuple([(back[::-1], at) for _, back, at in keyed])

    def spots(self, word):
        """The tuple of the unlike spots of the word, in order."""
        return in_order([text[:at + len(word)] for text, at in self.finds(word)])

    def texts_between(self, one, other):
        """The tuple of the texts that are strictly between two words."""
        check_word(self._letters, one)
        check_word(self._letters, other)
        return tuple([text for text in self._texts if order_words(one, text) * order_words(text, other) == 1])

    def nth(self, index):
        """The text with the index."""
        check_count(index)
        if index >= len(self._texts):
            raise InvalidOperation("there are not so many texts")
        return self._texts[index]

    def place(self, word):
        """How many texts are ahead of the word."""
        check_word(self._letters, word)
        return len([text for text in self._texts if order_words(text, word) < 0])

    def during(self, call):
        """What a call of the shelf returns; behind it all is as it was."""
        texts, states, at = self._texts, self._states, self._at
        try:
            return call(self)
        finally:
            self._texts = texts
            self._states = states
            self._at = at

    def twin(self):
        """An equal shelf with the same deeds."""
        made = Shelf(self._letters)
        made._texts = self._texts
        made._states = self._states
        made._at = self._at
        return made

    def __contains__(self, value):
        # Letters that are equal to those of a text need not be letters.
        return is_spelled(self._letters, value, MOST_LENGTH) and value in self._texts

    def __len__(self):
        return len(self._texts)

    def __iter__(self):
        return iter(self._texts)

    def __eq__(self, other):
        return isinstance(other, Shelf) and self._letters == other._letters and self._texts == other._texts

    def __bool__(self):
        return bool(self._texts)

    def __str__(self):
        return f"shelf of {len(self._texts)} texts over {self._letters} letters"
