"""Tests of the book [76]."""

import random
import unittest

from oldletters.book import Book
from oldletters.claims import surely_holds
from oldletters.errors import IsAsked, IsKept, Last, Nothing, OldError, TooMany, Wrong
from oldletters.nets import with_code_at, with_letter_at
from tests.samples import (
    LATCH_NET, NETS, THREE_NET, check_new, exchanged, odd_values, random_claim, random_code, random_nets,
    small_nets, wrong_kinds)

AT_1 = ("again", 0, (1,))
TURNS = ("again", 1, (1,))
STAY = (1, (0,), (("go", 0),))
ALONE = ((STAY,), ())


def held_by(book):
    """Return all that a book tells of itself."""
    return (book.net(), book.claims(), book.holding(), book.deeds(), book.undone())


class PlainBook:
    """A book that keeps all nets and claims, and works out anew what holds."""

    def __init__(self, net):
        self.rows = [(None, net, [])]
        self.at = 0

    def now(self):
        return self.rows[self.at][1:]

    def lost(self, before, behind):
        """Return the indexes of the claims that held at the row before and do not at the row behind."""
        if self.rows[before][1] == self.rows[behind][1]:
            return []
        claims = self.rows[behind][2]
        return [index for index, claim in enumerate(claims)
                if surely_holds(self.rows[before][1], claim, "lossy")
                and not surely_holds(self.rows[behind][1], claim, "lossy")]

    def do(self, deed, net, claims):
        self.rows = self.rows[:self.at + 1] + [(deed, net, claims)]
        self.at += 1
        return self.lost(self.at - 1, self.at)

    def move(self, by):
        self.at += by
        return self.lost(self.at - by, self.at)


class Books(unittest.TestCase):
    def check(self, book, plain):
        net, claims = plain.now()
        self.assertEqual(held_by(book), (
            net, claims, [surely_holds(net, claim, "lossy") for claim in claims],
            [row[0] for row in plain.rows[1:plain.at + 1]], len(plain.rows) - 1 - plain.at))

    def refuses(self, error, call, *values):
        """Check that a call raises the error with these values in its fields, in order."""
        with self.assertRaises(error) as caught:
            call()
        self.assertEqual(list(vars(caught.exception).values()), list(values))

    def test_each_deed(self):
        book = Book(LATCH_NET)
        self.assertEqual(held_by(book), (LATCH_NET, [], [], [], 0))
        self.assertEqual(book.keep(AT_1), [])
        self.assertEqual(book.keep(TURNS), [])
        self.assertEqual((book.claims(), book.holding()), ([AT_1, TURNS], [True, False]))
        self.assertEqual(book.change(0, 0, ("go", 0)), [0])
        self.assertEqual(book.net(), with_code_at(LATCH_NET, 0, 0, ("go", 0)))
        self.assertEqual(book.holding(), [False, True])
        self.assertEqual(book.undo(), [1])
        self.assertEqual((book.net(), book.holding(), book.undone()), (LATCH_NET, [True, False], 1))
        self.assertEqual(book.redo(), [0])
        self.assertEqual(book.drop(0), [])
        self.assertEqual((book.claims(), book.holding()), ([TURNS], [True]))
        self.assertEqual(book.show(0, 1, 0), [])
        self.assertEqual(book.net(), with_letter_at(with_code_at(LATCH_NET, 0, 0, ("go", 0)), 0, 1, 0))
        self.assertEqual(book.put(STAY), [])
        self.assertEqual(book.net()[0][2], STAY)
        self.assertEqual(book.take(), [])
        self.assertEqual(book.deeds(), [
            ("keep", AT_1), ("keep", TURNS), ("change", 0, 0, ("go", 0)), ("drop", 0), ("show", 0, 1, 0),
            ("put", STAY), ("take",)])
        for _ in range(7):
            book.undo()
        self.assertEqual(held_by(book), (LATCH_NET, [], [], [], 7))
        self.assertEqual([book.redo() for _ in range(7)], [[], [], [0], [], [], [], []])
        self.refuses(Nothing, book.redo)

    def test_drop_moves_the_indexes(self):
        book = Book(LATCH_NET)
        claims = [AT_1, TURNS, ("not", TURNS), ("or", AT_1, TURNS)]
        for claim in claims:
            book.keep(claim)
        book.drop(1)
        self.assertEqual(book.claims(), [claims[0], claims[2], claims[3]])
        self.assertEqual(book.change(0, 0, ("go", 0)), [0, 1])
        book.drop(0)
        self.assertEqual((book.claims(), book.holding()), ([claims[2], claims[3]], [False, True]))
        self.refuses(Wrong, lambda: book.drop(2), 0)
        self.assertEqual([book.undo(), book.undo()], [[], []])
        self.assertEqual((book.claims(), book.holding()), ([claims[0], claims[2], claims[3]], [True] * 3))

    def test_nothing_to_undo_or_to_redo(self):
        book = Book(LATCH_NET)
        self.refuses(Nothing, book.undo)
        self.refuses(Nothing, book.redo)
        book.keep(AT_1)
        self.refuses(Nothing, book.redo)
        book.undo()
        self.refuses(Nothing, book.undo)
        self.assertEqual(book.redo(), [])
        self.assertEqual(book.claims(), [AT_1])

    def test_deed_that_changes_nothing_leaves_nothing_to_do_again(self):
        for deed in (lambda book: book.change(0, 1, ("go", 1)), lambda book: book.show(0, 0, 0)):
            book = Book(LATCH_NET)
            book.keep(AT_1)
            book.put(STAY)
            book.undo()
            self.assertEqual(book.undone(), 1)
            self.assertEqual(deed(book), [])
            self.assertEqual((book.net(), book.undone(), len(book.deeds())), (LATCH_NET, 0, 2))
            self.refuses(Nothing, book.redo)
            self.assertEqual([book.undo(), book.undo()], [[], []])
            self.assertEqual(book.undone(), 2)

    def test_refused_deeds_leave_what_can_be_done_again(self):
        book = Book(LATCH_NET)
        book.keep(AT_1)
        book.undo()
        before = held_by(book)
        self.refuses(Wrong, lambda: book.drop(0), 0)
        self.refuses(IsAsked, book.take, 0)
        self.refuses(Wrong, lambda: book.show(0, 0, 2), 2)
        self.assertEqual(held_by(book), before)
        self.assertEqual(book.undone(), 1)

    def test_errors_of_put_and_take_in_order(self):
        five = ((STAY,) * 5, ())
        book = Book(five)
        self.refuses(TooMany, lambda: book.put(STAY), 5)
        self.refuses(Wrong, lambda: book.put((1, (0,), ())), 0)
        self.assertEqual(Book(((STAY,) * 4, (2, 3))).put(STAY), [])
        self.refuses(TooMany, lambda: Book(((STAY,) * 7, ())).put(STAY), 5)
        self.refuses(Last, Book(ALONE).take)
        lone = Book((((2, (0, 1), (("go", 0), ("go", 1))),), ()))
        lone.keep(AT_1)
        self.refuses(Last, lone.take)
        # IsAsked with the least that asks it, ahead of IsKept with the least claim that names it.
        asking = (2, (0, 1), (("get", 3, (("go", 0),)),) * 2)
        net = ((STAY, asking, asking, (1, (0, 0), (("get", 3, (("go", 1),)), ("go", 0)))), (3,))
        book = Book(net)
        book.keep(("again", 3, (0,)))
        self.refuses(IsAsked, book.take, 1)
        book.change(1, 0, ("go", 0))
        self.refuses(IsAsked, book.take, 1)
        book.change(1, 1, ("go", 0))
        self.refuses(IsAsked, book.take, 2)
        book.change(2, 0, ("go", 0))
        book.change(2, 1, ("go", 0))
        book.keep(("again", 0, (0,)))
        book.keep(("not", ("or", ("again", 0, (0,)), ("and", ("again", 3, (1,)), ("again", 0, (0,))))))
        # It asks itself, and is steady; neither matters.
        self.refuses(IsKept, book.take, 0)
        book.drop(0)
        self.refuses(IsKept, book.take, 1)
        book.drop(1)
        self.assertEqual(book.take(), [])
        self.assertEqual(book.net(), ((STAY,) + ((2, (0, 1), (("go", 0),) * 2),) * 2, ()))
        self.assertEqual(book.undo(), [])
        self.assertEqual(book.net()[1], (3,))

    def test_six_claims(self):
        book = Book(LATCH_NET)
        for _ in range(6):
            self.assertEqual(book.keep(AT_1), [])
        self.refuses(TooMany, lambda: book.keep(AT_1), 6)
        self.refuses(Wrong, lambda: book.keep(("again", 0, ())), 0)
        self.assertEqual(book.change(0, 0, ("go", 0)), [0, 1, 2, 3, 4, 5])
        book.drop(3)
        self.assertEqual(book.keep(TURNS), [])
        self.assertEqual(book.holding(), [False] * 5 + [True])

    def test_put_asks_itself_and_others(self):
        book = Book(LATCH_NET)
        worker = (2, (1, 0), (("get", 2, (("go", 1), ("get", 0, (("go", 0), ("go", 1))))), ("get", 1, (("go", 0),) * 2)))
        self.assertEqual(book.put(worker), [])
        self.assertEqual(book.net(), (LATCH_NET[0] + (worker,), ()))
        self.refuses(Wrong, lambda: book.put((1, (0,), (("get", 4, (("go", 0),)),))), 0)
        self.refuses(Wrong, lambda: book.put((1, (0,), (("get", 3, (("go", 0),) * 2),))), 0)
        self.refuses(Wrong, lambda: book.put((1, (1,), (("go", 0),))), 0)
        steady = Book((LATCH_NET[0], (0, 1)))
        steady.put(STAY)
        self.assertEqual(steady.net()[1], (0, 1))

    def test_values_of_any_kind(self):
        for thing in odd_values():
            self.refuses(Wrong, lambda: Book(thing), 0)
        for net in NETS[:3]:
            for other in exchanged(net, wrong_kinds):
                self.refuses(Wrong, lambda: Book(other), 0)
        book = Book(THREE_NET)
        book.keep(("again", 1, (0, 2)))
        before = held_by(book)
        for thing in odd_values() + [3, 7, (0,), "0"]:
            self.refuses(Wrong, lambda: book.change(thing, thing, thing), 0)
            self.refuses(Wrong, lambda: book.show(thing, thing, thing), 0)
            self.refuses(Wrong, lambda: book.change(0, thing, thing), 1)
            self.refuses(Wrong, lambda: book.show(1, thing, thing), 1)
            self.refuses(Wrong, lambda: book.change(2, 1, thing), 2)
            self.refuses(Wrong, lambda: book.show(2, 1, thing), 2)
            self.refuses(Wrong, lambda: book.put(thing), 0)
            self.refuses(Wrong, lambda: book.keep(thing), 0)
            self.refuses(Wrong, lambda: book.drop(thing), 0)
        for call, right in ((lambda thing: book.put(thing), THREE_NET[0][0]),
                            (lambda thing: book.keep(thing), ("not", ("and", ("again", 1, (0, 2)), ("again", 0, (1,)))))):
            for thing in exchanged(right, wrong_kinds):
                self.refuses(Wrong, lambda: call(thing), 0)
        code = ("get", 2, (("go", 0), ("get", 1, (("go", 1),))))
        for thing in exchanged(code, wrong_kinds):
            self.refuses(Wrong, lambda: book.change(0, 0, thing), 2)
        self.refuses(Wrong, lambda: book.change(0, 2, code), 1)
        self.refuses(Wrong, lambda: book.change(3, 0, code), 0)
        self.refuses(Wrong, lambda: book.show(1, 2, 1), 2)
        self.refuses(Wrong, lambda: book.drop(1), 0)
        self.refuses(Wrong, lambda: book.drop(-1), 0)
        self.assertEqual(held_by(book), before)

    def test_values_of_any_kind_ahead_of_other_errors(self):
        book = Book(((STAY,) * 5, ()))
        for _ in range(6):
            book.keep(("again", 0, (0,)))
        for thing in (None, (), STAY + (0,), True):
            self.refuses(Wrong, lambda: book.put(thing), 0)
            self.refuses(Wrong, lambda: book.keep(thing), 0)

    def test_what_is_returned_may_be_changed(self):
        book = Book(LATCH_NET)
        book.keep(AT_1)
        book.keep(TURNS)
        book.change(0, 0, ("go", 0))
        for call in (book.net, book.claims, book.holding, book.deeds):
            check_new(self, call)
        book.undo().append(7)
        book.redo().clear()
        self.assertEqual((book.claims(), book.holding()), ([AT_1, TURNS], [False, True]))

    def test_two_books_apart(self):
        one, other = Book(LATCH_NET), Book(LATCH_NET)
        one.keep(AT_1)
        one.change(0, 0, ("go", 0))
        self.assertEqual(held_by(other), (LATCH_NET, [], [], [], 0))
        other.keep(TURNS)
        one.undo()
        self.assertEqual((one.claims(), other.claims(), one.undone(), other.undone()), ([AT_1], [TURNS], 1, 0))

    def drawn_deed(self, rng, book, plain, claims):
        """Do a deed made by chance on both books, and check what it returns or raises."""
        net, kept = plain.now()
        word = rng.choice(("change", "change", "change", "show", "put", "take", "keep", "keep", "drop", "undo", "undo",
                           "redo", "redo"))
        worker = rng.randrange(len(net[0]))
        letters, shown, _ = net[0][worker]
        state = rng.randrange(len(shown))
        many = [one[0] for one in net[0]]
        try:
            if word == "change":
                code = random_code(rng, many, len(shown), 2)
                return book.change(worker, state, code), plain.do(
                    (word, worker, state, code), with_code_at(net, worker, state, code), kept)
            if word == "show":
                letter = rng.randrange(letters)
                return book.show(worker, state, letter), plain.do(
                    (word, worker, state, letter), with_letter_at(net, worker, state, letter), kept)
            if word == "put":
                new = (2, (0, 1), (random_code(rng, many + [2], 2, 1), random_code(rng, many + [2], 2, 2)))
                return book.put(new), plain.do((word, new), (net[0] + (new,), net[1]), kept)
            if word == "take":
                last = len(net[0]) - 1
                return book.take(), plain.do((word,), (net[0][:-1], tuple(at for at in net[1] if at < last)), kept)
            if word == "keep":
                claim = random_claim(rng, net, claims)
                return book.keep(claim), plain.do((word, claim), net, kept + [claim])
            if word == "drop":
                index = rng.randrange(6)
                return book.drop(index), plain.do((word, index), net, kept[:index] + kept[index + 1:])
            return (book.undo(), plain.move(-1)) if word == "undo" else (book.redo(), plain.move(1))
        except OldError as error:
            return type(error).__name__, word

    def test_deeds_made_by_chance(self):
        rng = random.Random(76)
        seen = {}
        for net in small_nets(25) + small_nets(15, steady=True):
            book, plain = Book(net), PlainBook(net)
            for _ in range(40):
                found, wanted = self.drawn_deed(rng, book, plain, 4)
                if isinstance(found, str):
                    seen[(found, wanted)] = seen.get((found, wanted), 0) + 1
                else:
                    self.assertEqual(found, wanted)
                    seen[bool(found)] = seen.get(bool(found), 0) + 1
                self.check(book, plain)
        self.assertLessEqual(set(seen), {
            True, False, ("TooMany", "keep"), ("TooMany", "put"), ("Last", "take"), ("IsAsked", "take"),
            ("IsKept", "take"), ("Wrong", "drop"), ("Nothing", "undo"), ("Nothing", "redo")})
        self.assertGreaterEqual(len(seen), 9, seen)
        self.assertGreater(seen[True], 20)

    def test_put_and_take_touch_no_claim(self):
        rng = random.Random(77)
        for net in random_nets(40, most_workers=3, steady=True):
            book = Book(net)
            for _ in range(4):
                book.keep(random_claim(rng, net, 3))
            holding = book.holding()
            many = [worker[0] for worker in net[0]] + [2]
            book.put((2, (0, 1), (random_code(rng, many, 2, 2), random_code(rng, many, 2, 2))))
            self.assertEqual(book.holding(), holding)
            self.assertEqual(holding, [surely_holds(book.net(), claim, "lossy") for claim in book.claims()])
            self.assertEqual([book.undo(), book.redo(), book.take(), book.undo(), book.redo()], [[]] * 5)
            self.assertEqual((book.holding(), book.net()), (holding, net))
        # A steady one that is taken out touches none either.
        for net in small_nets(60, steady=True):
            book = Book(net)
            try:
                book.take()
            except OldError:
                continue
            claim = random_claim(rng, book.net(), 4)
            self.assertIs(surely_holds(net, claim, "lossy"), surely_holds(book.net(), claim, "lossy"))


if __name__ == "__main__":
    unittest.main()
