"""[19.1] to [19.5]: a shelf of texts."""

from itertools import combinations, product
from random import Random

from roomlines.base.endless import Endless
from roomlines.deeds.languages import of_words
from roomlines.desk import shelf as module
from roomlines.desk.shelf import Shelf
from roomlines.errors import InvalidNumber, InvalidOperation, InvalidWord, NothingToUndo, Refused, TooMany
from roomlines.find.endings import rooms_behind
from roomlines.mach.least import futures, language_size, least
from roomlines.mach.machines import Machine
from roomlines.order.lines import line_number, one_line_order
from roomlines.unfold.single import is_single_machine, single_machine
from tests.checks import Checks, first_of
from tests.support import ALL, EVEN, LONG, NO_NUMBERS, NO_TUPLES, TOO_LONG, all_words, by_end, plain_room
from tests.test_words import NO_LETTERS, NO_WORDS_OF_2

EXAMPLES = """
>>> shelf = Shelf(2)
>>> [shelf.put((0, 1)), shelf.put((1, 1, 0)), shelf.put_all((1,), (0, 1)), str(shelf), shelf.texts]
[1, 2, 3, 'shelf of 3 texts over 2 letters', ((1, 1, 0), (1,), (0, 1))]
>>> [list(shelf.texts_ending((1,))), shelf.finds((1,)), shelf.spots((1, 1)), shelf.nth(2), shelf.place((0, 0))]
[[(1,), (0, 1)], (((1, 1, 0), 0), ((1,), 0), ((0, 1), 1), ((1, 1, 0), 1)), ((1, 1),), (0, 1), 0]
>>> [shelf.undo(), (1,) in shelf, shelf.redo(), shelf.deeds, shelf.machine()((0, 1)), len(shelf.machine().good)]
[2, False, 3, 3, True, 3]
>>> shelf.take((0, 0))
raises InvalidOperation
"""
# Their beginnings fall into just 400 lots.
TO_400 = tuple(tuple(map(int, text)) for text in """20333011101313211000 20121323132020130200 13110212122310233110
    32210333330330101310 31011130023001120030 21300020100330103001 13232311011110312201 30311032013030011
    20102030232101012011 33201022310121020221 31220202330322001002 32332211102323200312 21211131132002321232
    20321030121133301332 01201212131033111332 23102233130322103 03010123102101200013 03212331213130332013
    20101312130320031313 13300222330023002323 20001020013122230033 22123122020001313033""".split())
TWO_WORDS = tuple(all_words(2, 6))


class PlainShelf:
    """What a shelf does, by sets of texts, all of which are kept."""

    def __init__(self):
        self.past, self.now, self.next = [], frozenset(), []

    def change(self, texts):
        """Make these the texts, as a deed if they are others."""
        if texts != self.now:
            self.past.append(self.now)
            self.now, self.next = frozenset(texts), []
        return len(self.now)

    def put(self, word):
        if word in self.now:
            return InvalidOperation
        if len(word) > 20:
            return (TooMany, 20)
        return (TooMany, 40) if len(self.now) == 40 else self.change(self.now | {word})

    def take(self, word):
        return self.change(self.now - {word}) if word in self.now else InvalidOperation

    def put_all(self, *words):
        if any(len(word) > 20 for word in words):
            return (TooMany, 20)
        return (TooMany, 40) if len(self.now | set(words)) > 40 else self.change(self.now | set(words))

    def clear(self):
        return self.change(frozenset())

    def undo(self, times):
        if times > len(self.past):
            return (NothingToUndo, times)
        for _ in range(times):
            self.next.append(self.now)
            self.now = self.past.pop()
        return len(self.now)

    def redo(self, times):
        if times > len(self.next):
            return (NothingToUndo, times)
        for _ in range(times):
            self.past.append(self.now)
            self.now = self.next.pop()
        return len(self.now)


def shelf_of(letters, *texts):
    """A shelf with some texts."""
    made = Shelf(letters)
    made.put_all(*texts)
    return made


class ShelfTests(Checks):

    def state(self, shelf):
        """All that a shelf tells of itself."""
        return (shelf.letters, shelf.texts, shelf.deeds, len(shelf), list(shelf), bool(shelf), str(shelf))

    def same(self, shelf, plain, letters):
        """The shelf tells what a plain one does."""
        texts = tuple(by_end(plain.now))
        self.assertEqual(self.state(shelf), (letters, texts, len(plain.past), len(texts), list(texts), bool(texts),
                                             f"shelf of {len(texts)} texts over {letters} letters"))

    def test_examples(self):
        self.examples(EXAMPLES, dict(vars(module)))

    def test_constants(self):
        self.assertEqual((module.MOST_TEXTS, module.MOST_LENGTH), (40, 20))

    def test_new_shelves(self):
        for letters in (1, 2, 3, 4):
            shelf = Shelf(letters)
            self.assertEqual(self.state(shelf), (letters, (), 0, 0, [], False, f"shelf of 0 texts over {letters} letters"))
        for value in NO_LETTERS:
            self.fails_with(InvalidNumber, value, Shelf, value)

    def rows(self, seed, letters, steps):
        """A long row of deeds on a shelf and on a plain one."""
        dice = Random(seed)
        shelf, plain = Shelf(letters), PlainShelf()
        words = [tuple(dice.randrange(letters) for _ in range(dice.choice((0, 1, 2, 3, 5, 19, 20, 20, 21)))) for _ in range(60)]
        kinds = {}
        for _ in range(steps):
            name = dice.choice(("put", "put", "put", "take", "put_all", "undo", "undo", "redo", "clear", "many"))
            if name == "clear" and dice.random() < 0.7:
                name = "redo"
            args, named = (), {}
            if name in ("put", "take"):
                args = (dice.choice(words),)
                if name == "take" and plain.now and dice.random() < 0.7:
                    args = (dice.choice(sorted(plain.now)),)
            elif name == "put_all":
                args = tuple(dice.choice(words[:dice.choice((10, 60))]) for _ in range(dice.randrange(5)))
            elif name == "many":
                name, args = "put_all", tuple(word for word in dice.sample(words, 45) if len(word) < 21)[:dice.randint(30, 45)]
            elif name != "clear":
                named = {"times": dice.choice((0, 1, 1, 1, 2, 3, len(plain.past), len(plain.next), len(plain.past) + 1))}
            right = getattr(plain, name)(*args, *named.values())
            call = getattr(shelf, name)
            if isinstance(right, int):
                self.assertEqual(call(*args, **named), right)
            elif isinstance(right, tuple):
                self.fails_with(*right, call, *args, **named)
            else:
                self.fails(right, call, *args, **named)
            kinds[name, not isinstance(right, int)] = True
            self.same(shelf, plain, letters)
        return kinds

    def test_long_rows_of_deeds(self):
        kinds = {}
        for seed in range(12):
            kinds.update(self.rows(seed, seed % 4 + 1, 250))
        self.assertEqual(set(kinds), {(name, failed) for name in ("put", "take", "put_all", "undo", "redo")
                                      for failed in (False, True)} | {("clear", False)})

    def test_deeds_that_change_nothing(self):
        shelf = shelf_of(2, (0,), (1,))
        shelf.put((0, 0))
        shelf.undo()
        before = self.state(shelf)
        self.assertEqual((shelf.put_all(), shelf.put_all((1,)), shelf.put_all((0,), (1,), (0,)), shelf.undo(times=0),
                          shelf.redo(times=0)), (2,) * 5)
        self.assertEqual(self.state(shelf), before)
        # What was taken back can still be done again, as no deed has followed.
        self.assertEqual((shelf.redo(), shelf.texts), (3, ((0,), (0, 0), (1,))))
        empty = Shelf(2)
        self.assertEqual((empty.clear(), empty.deeds, empty.put_all(), empty.deeds), (0, 0, 0, 0))
        shelf.undo(times=2)
        self.assertEqual((shelf.clear(), shelf.redo(times=2)), (0, 3))

    def test_refused_deeds(self):
        shelf = shelf_of(2, (0,), (1, 0))
        shelf.put((1,))
        shelf.undo()
        before = self.state(shelf)
        for error, call, *args in ((InvalidOperation, shelf.put, (0,)), (InvalidOperation, shelf.take, (1,)),
                                   (TooMany, shelf.put, (0,) * 21), (TooMany, shelf.put_all, (1, 1), (0,) * 21),
                                   (InvalidWord, shelf.put, (2,)), (InvalidWord, shelf.take, None),
                                   (InvalidWord, shelf.put_all, (1, 1), (2,)), (InvalidOperation, shelf.take, (0,) * 21)):
            self.fails(error, call, *args)
            self.assertEqual(self.state(shelf), before)
        self.fails_with(NothingToUndo, 2, shelf.undo, times=2)
        self.fails_with(NothingToUndo, 2, shelf.redo, times=2)
        self.assertEqual((self.state(shelf), shelf.redo()), (before, 3))

    def test_40_texts_and_41(self):
        words = [word for word in TWO_WORDS if len(word) > 1][:41]
        shelf = shelf_of(2, *words[:39])
        self.assertEqual(shelf.put(words[39]), 40)
        before = self.state(shelf)
        self.fails_with(TooMany, 40, shelf.put, words[40])
        self.fails_with(TooMany, 40, shelf.put_all, words[40])
        self.fails_with(TooMany, 20, shelf.put, (0,) * 21)
        self.fails_with(TooMany, 20, shelf.put_all, words[40], (0,) * 21)
        self.fails(InvalidOperation, shelf.put, words[3])
        self.assertEqual((shelf.put_all(*words[:40]), self.state(shelf)), (40, before))
        self.assertEqual((shelf.take(words[0]), shelf.put(words[40])), (39, 40))
        self.fails_with(TooMany, 40, Shelf(2).put_all, *words)
        self.assertEqual(Shelf(2).put_all(*words[:40], *words[:40]), 40)

    def test_texts_of_20_letters_and_21(self):
        shelf = Shelf(2)
        self.assertEqual((shelf.put((0,) * 20), shelf.put_all((1,) * 20), shelf.texts), (1, 2, ((0,) * 20, (1,) * 20)))
        for many in (21, 22, 200):
            self.fails_with(TooMany, 20, shelf.put, (0,) * many)
            self.fails_with(TooMany, 20, shelf.put_all, (0,) * many)
            self.assertIs((0,) * many in shelf, False)
        self.fails(InvalidWord, shelf.put, (0,) * 201)
        self.fails(InvalidWord, shelf.put_all, (0,) * 21, (0,) * 201)
        self.fails(InvalidOperation, shelf.take, (0,) * 200)

    def test_undo_and_redo(self):
        shelf = Shelf(2)
        words = TWO_WORDS[:9]
        for word in words:
            shelf.put(word)
        for times in range(11):
            if times > 9:
                self.fails_with(NothingToUndo, times, shelf.undo, times=times)
                continue
            self.assertEqual((shelf.undo(times=times), shelf.deeds), (9 - times, 9 - times))
            self.assertEqual(shelf.texts, tuple(by_end(words[:9 - times])))
            self.fails_with(NothingToUndo, times + 1, shelf.redo, times=times + 1)
            self.assertEqual((shelf.redo(times=times), shelf.deeds), (9, 9))
        self.fails_with(NothingToUndo, 1, shelf.redo)
        self.fails_with(NothingToUndo, 10 ** 59, shelf.undo, times=10 ** 59)
        self.fails_with(NothingToUndo, 1, Shelf(2).undo)
        shelf.undo(times=3)
        shelf.take(words[0])
        self.fails_with(NothingToUndo, 1, shelf.redo)
        self.assertEqual((shelf.undo(times=7), shelf.texts, shelf.redo(times=7)), (0, (), 5))
        for value in NO_NUMBERS:
            self.fails_with(InvalidNumber, value, shelf.undo, times=value)
            self.fails_with(InvalidNumber, value, shelf.redo, times=value)
        self.fails(TypeError, shelf.undo, 1)
        self.fails(TypeError, shelf.redo, 1)

    def test_during(self):
        shelf = shelf_of(2, (0,), (1,))
        shelf.put((0, 1))
        shelf.undo()
        before = self.state(shelf)

        def change(told):
            told.put_all((1, 1))
            told.clear()
            told.put_all(*TWO_WORDS[:30])
            return told.texts

        def undo(told):
            told.undo()
            return told

        def fail(told):
            change(told)
            raise KeyError(7)

        def nest(told):
            told.put((1, 1))
            inner = told.during(change)
            return len(inner), told.texts

        self.assertEqual(shelf.during(change), tuple(by_end(TWO_WORDS[:30])))
        self.assertEqual(self.state(shelf), before)
        self.assertEqual(shelf.during(nest), (30, ((0,), (1,), (1, 1))))
        self.assertEqual(self.state(shelf), before)
        told = shelf.during(undo)
        self.assertEqual((told == shelf, self.state(told)), (True, before))
        self.assertEqual(self.fails(KeyError, shelf.during, fail).args, (7,))
        self.assertEqual(self.state(shelf), before)
        self.fails(InvalidOperation, shelf.during, lambda held: held.put((0,)))
        self.assertIs(shelf.during(lambda held: None), None)
        # What was taken back ahead of it can be done again.
        self.assertEqual((shelf.redo(), shelf.texts), (3, ((0,), (1,), (0, 1))))
        self.assertEqual(shelf.during(len), 3)

    def test_twins(self):
        shelf = shelf_of(2, (0,), (1,))
        shelf.put((0, 1))
        shelf.undo()
        twin = shelf.twin()
        before = self.state(shelf)
        self.assertEqual((self.state(twin), twin == shelf, type(twin)), (before, True, Shelf))
        self.assertEqual((twin.redo(), self.state(shelf)), (3, before))
        twin.clear()
        self.assertEqual((self.state(shelf), shelf == twin, twin.undo(times=3)), (before, False, 0))
        self.assertEqual((shelf.redo(), shelf.clear(), twin.deeds, twin.redo(times=2)), (3, 0, 0, 3))

    def test_equal_shelves(self):
        one, other = shelf_of(2, (0,), (1, 0)), Shelf(2)
        other.put((1, 0))
        self.assertIs(one == other, False)
        other.put((0,))
        self.assertEqual((one == other, one != other, one.deeds, other.deeds), (True, False, 1, 2))
        self.assertEqual((Shelf(2) == Shelf(2), Shelf(2) == Shelf(3), shelf_of(3, (0,), (1, 0)) == one), (True, False, False))
        for value in (None, True, 0, "", (), [], {}, one.texts, list(one), ALL, Endless(2, (0,)), str(one)):
            self.assertEqual((one == value, one != value), (False, True))
        self.fails(TypeError, lambda: one + one)

    def test_membership(self):
        shelf = shelf_of(2, (), (0,), (0, 1))
        for word in all_words(2, 4):
            self.assertIs(word in shelf, word in ((), (0,), (0, 1)))
        for value in NO_TUPLES + ((False,), (0, True), [0, 1], [0], "01", (None,), ((0,),), (2,), (TOO_LONG,), shelf,
                                  (0,) * 201, {}, None):
            self.assertIs(value in shelf, False)
            self.assertIs(value not in shelf, True)

    def test_iteration(self):
        shelf = shelf_of(3, *all_words(3, 2))
        self.assertEqual((list(shelf), tuple(shelf)), (by_end(all_words(3, 2)), shelf.texts))
        self.assertEqual([word for word in shelf], list(shelf))
        self.assertEqual((list(Shelf(1)), len(shelf), bool(shelf), bool(Shelf(1))), ([], 13, True, False))

    def test_wrong_words(self):
        shelf = shelf_of(2, (0,), (1, 0))
        for value in NO_WORDS_OF_2 + ((0,) * 201, Endless(2, (0,))):
            for call in (shelf.put, shelf.take, shelf.put_all, shelf.finds, shelf.spots, shelf.place,
                         first_of(shelf.texts_ending)):
                self.fails(InvalidWord, call, value)
            for other in (None, (0,), (2,)):
                self.fails(InvalidWord, shelf.texts_between, value, other)
                self.fails(InvalidWord, shelf.put_all, (1, 1), value, other)
            self.fails(InvalidWord, shelf.texts_between, (0,), value)
        shelf.texts_ending(None)
        self.assertEqual((shelf.texts, shelf.deeds), (((0,), (1, 0)), 1))


def shelves():
    """Shelves with texts that are drawn."""
    dice = Random(191)
    made = [shelf_of(2, ()), shelf_of(1, (0,) * 20), shelf_of(2, (), (0,), (0, 0)), shelf_of(2, (0, 0)), Shelf(4)]
    for _ in range(60):
        letters = dice.randint(1, 4)
        longest = dice.choice((1, 2, 3, 4, 7, 20))
        words = {tuple(dice.randrange(letters) for _ in range(dice.randint(0, longest))) for _ in range(dice.randint(0, 12))}
        made.append(shelf_of(letters, *words))
    return made


class FindTests(Checks):

    def test_ends(self):
        for shelf in shelves():
            for word in all_words(shelf.letters, 3):
                right = [text for text in shelf if text[len(text) - len(word):] == word and len(word) <= len(text)]
                self.assertEqual(list(shelf.texts_ending(word)), right)
        self.assertEqual(list(shelf_of(1, (0,)).texts_ending((0,) * 200)), [])

    def test_finds_and_spots(self):
        found = 0
        for shelf in shelves():
            for word in all_words(shelf.letters, 3):
                places = [(text, at) for text in shelf for at in range(21)
                          if text[at:at + len(word)] == word and at + len(word) <= len(text)]
                places = sorted(places, key=lambda pair: (pair[0][:pair[1] + len(word)][::-1], pair[0][::-1]))
                self.assertEqual(shelf.finds(word), tuple(places))
                spots = {text[:at + len(word)] for text, at in places}
                self.assertEqual(shelf.spots(word), tuple(by_end(spots)))
                found += len(places) > len(spots) > 1
        self.assertGreater(found, 100)
        shelf = shelf_of(2, (0, 0, 1), (0, 0))
        self.assertEqual(shelf.finds(()), (((0, 0), 0), ((0, 0, 1), 0), ((0, 0), 1), ((0, 0, 1), 1), ((0, 0), 2),
                                           ((0, 0, 1), 2), ((0, 0, 1), 3)))
        self.assertEqual((shelf.spots(()), shelf.finds((0,) * 200)), (((), (0,), (0, 0), (0, 0, 1)), ()))

    def test_spots_are_a_stretch_of_the_rooms(self):
        for shelf in shelves():
            if not shelf:
                continue
            machine = shelf.machine()
            for word in all_words(shelf.letters, 2):
                rooms = sorted({plain_room(machine, spot) for spot in shelf.spots(word)})
                self.assertEqual(tuple(rooms), rooms_behind(machine, word))
                self.assertEqual(rooms, list(range(rooms[0], rooms[-1] + 1)) if rooms else [])
                self.assertTrue(all(spot[len(spot) - len(word):] == word for spot in shelf.spots(word)))

    def test_texts_between(self):
        for shelf in shelves()[::4]:
            for one, other in product(all_words(shelf.letters, 2), repeat=2):
                first, last = sorted((one[::-1], other[::-1]))
                right = tuple(text for text in shelf if first < text[::-1] < last)
                self.assertEqual(shelf.texts_between(one, other), right)
        shelf = shelf_of(2, *all_words(2, 2))
        self.assertEqual(shelf.texts_between((), (0,) * 200), ((0,), (0, 0)))

    def test_indices_and_places(self):
        for shelf in shelves():
            self.assertEqual([shelf.nth(at) for at in range(len(shelf))], list(shelf))
            for index in (len(shelf), len(shelf) + 1, LONG):
                self.fails(InvalidOperation, shelf.nth, index)
            for value in NO_NUMBERS:
                self.fails_with(InvalidNumber, value, shelf.nth, value)
            for word in all_words(shelf.letters, 3) + shelf.texts + ((0,) * 200,):
                self.assertEqual(shelf.place(word), sum(text[::-1] < word[::-1] for text in shelf))

    def test_what_is_not_true(self):
        one, other = shelf_of(2, (), (0,), (0, 0)), shelf_of(2, (0, 0))
        self.assertEqual((one.machine().size, other.machine().size), (3, 3))
        one, other = shelf_of(2, (0, 1)), shelf_of(2, (1, 0))
        self.assertEqual([len(one.finds((letter,))) for letter in (0, 1)], [len(other.finds((letter,))) for letter in (0, 1)])
        self.assertNotEqual(one.texts, other.texts)


class MachineTests(Checks):

    def lots_machine(self, shelf):
        """The machine of a shelf, which must have its texts, and lots as its rooms."""
        machine = shelf.machine()
        self.assertEqual((type(machine), machine.letters), (Machine, shelf.letters))
        self.assertEqual((line_number(machine), one_line_order(machine)), (1, tuple(range(machine.size))))
        told = futures(machine)
        self.assertTrue(all(told[room] != told[room + 1] for room in range(machine.size - 1)))
        self.assertEqual(language_size(machine), len(shelf))
        self.assertTrue(all(machine(text) for text in shelf))
        return machine

    def test_machines(self):
        compared = 0
        for shelf in shelves():
            if not shelf:
                self.fails_with(Refused, ("empty",), shelf.machine)
                continue
            machine = self.lots_machine(shelf)
            small = least(machine)
            if len(shelf) < 21:
                self.assertEqual(small, of_words(shelf.letters, shelf.texts))
            try:
                right = single_machine(small)
            except TooMany:
                continue
            compared += 1
            self.assertEqual(machine, right)
            self.assertIs(is_single_machine(small, machine), True)
        self.assertGreater(compared, 15)

    def test_all_small_shelves(self):
        words = all_words(2, 2)
        for many in range(1, 5):
            for texts in combinations(words, many):
                shelf = shelf_of(2, *texts)
                machine = self.lots_machine(shelf)
                self.assertEqual({word for word in all_words(2, 4) if machine(word)}, set(texts))
                beginnings = by_end({text[:at] for text in texts for at in range(len(text) + 1)})
                ahead = [frozenset(text[len(word):] for text in texts if text[:len(word)] == word) for word in beginnings]
                lots = 1 + sum(ahead[at] != ahead[at + 1] for at in range(len(ahead) - 1))
                self.assertEqual(machine.size, lots)

    def test_machines_hang_on_the_texts_alone(self):
        shelf, other = shelf_of(2, *TWO_WORDS[:9]), Shelf(2)
        for word in TWO_WORDS[8::-1]:
            other.put(word)
            other.put((1,) * 20)
            other.take((1,) * 20)
        self.assertEqual(shelf.machine(), other.machine())
        self.assertEqual(shelf.machine(), shelf.machine())
        before = shelf.machine()
        shelf.put((1,) * 9)
        self.assertNotEqual(shelf.machine(), before)
        shelf.undo()
        self.assertEqual(shelf.machine(), before)

    def test_400_rooms_and_more(self):
        shelf = shelf_of(4, *TO_400)
        self.assertEqual((len(shelf), self.lots_machine(shelf).size), (22, 400))
        shelf.put((2, 2, 2, 2, 2, 2))
        self.fails_with(TooMany, 400, shelf.machine)
        shelf.undo()
        self.assertEqual(shelf.machine().size, 400)
        dice = Random(192)
        wide = shelf_of(4, *{tuple(dice.randrange(4) for _ in range(20)) for _ in range(40)})
        self.assertEqual(len(wide), 40)
        self.fails_with(TooMany, 400, wide.machine)
        wide.clear()
        self.fails_with(Refused, ("empty",), wide.machine)

    def test_known_machines(self):
        self.assertEqual(shelf_of(2, ()).machine(), Machine(2, ((None, None),), (0,)))
        self.assertEqual(shelf_of(2, (0,), (1,)).machine(), Machine(2, ((1, 1), (None, None)), (1,)))
        self.assertEqual(shelf_of(3, (0,), (2,), (1, 0)).machine(),
                         Machine(3, ((1, 2, 3), (None,) * 3, (1, None, None), (None,) * 3), (1, 3)))
        self.assertEqual(shelf_of(2, (0,), (1, 1)).machine(), Machine(2, ((1, 2), (None, None), (None, 3), (None, None)), (1, 3)))
        self.assertIs(shelf_of(1, (0,)).machine() == EVEN, False)
