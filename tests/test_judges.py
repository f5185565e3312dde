import itertools
import random
import unittest

from sealround.digests import Mixing
from sealround.errors import WitnessError
from sealround.judges import both, confirmed, is_orderly
from sealround.papers import Paper
from sealround.witnesses import Witness
from tests.pasts import Past

GREAT = 2 ** 70


def plain_has(book, service, number, digest):
    """Whether one of the entries is of this service and round with this digest, at any hour."""
    return {(service, number, digest)} <= {(entry[0], entry[1], entry[3]) for entry in book}


def plain_orderly(book):
    """Whether each pair of entries stands in order."""
    for earlier, later in itertools.combinations(book, 2):
        if earlier[2] > later[2]:
            return False
        if earlier[0] == later[0] and earlier[1] >= later[1]:
            return False
    return True


def some_books(chance, many):
    """Books of few services, rounds and digests; some are not orderly."""
    books = []
    for _ in range(many):
        books.append([
            (chance.randrange(2), chance.randrange(3), chance.randrange(4), chance.randrange(3))
            for _ in range(chance.randrange(6))
        ])
    return books


class ConfirmedTest(unittest.TestCase):
    def test_by_hand(self):
        one, two, other = (9, 3, 50, 70), (9, 3, 51, 71), (8, 3, 50, 70)
        books = [[one], [two], [one, two], [other], [], [(9, 2, 50, 70), (9, 3, 52, 70)]]
        for needed in range(7):
            self.assertIs(confirmed(books, needed, 9, 3, 70), needed <= 3)
            self.assertIs(confirmed(books, needed, 9, 3, 71), needed <= 2)
            self.assertIs(confirmed(books, needed, 8, 3, 70), needed <= 1)
            self.assertIs(confirmed(books, needed, 9, 2, 70), needed <= 1)
            for question in ((9, 3, 50), (8, 3, 71), (9, 4, 70), (7, 3, 70), (3, 9, 70)):
                self.assertIs(confirmed(books, needed, *question), needed == 0)

    def test_a_book_counts_once(self):
        entry = (9, 3, 50, 70)
        for book in ([entry] * 3, [entry, (9, 3, 60, 70)]):
            self.assertIs(confirmed([book], 1, 9, 3, 70), True)
            self.assertIs(confirmed([book], 2, 9, 3, 70), False)
        self.assertIs(confirmed([[entry], [entry]], 2, 9, 3, 70), True)

    def test_no_books(self):
        self.assertIs(confirmed([], 0, 9, 3, 70), True)
        self.assertIs(confirmed([], 1, 9, 3, 70), False)
        self.assertEqual(both([], 9, 3, 70, 71), [])

    def test_great_numbers(self):
        entry = (GREAT, GREAT + 1, GREAT + 2, GREAT + 3)
        self.assertIs(confirmed([[entry]], 1, GREAT, GREAT + 1, GREAT + 3), True)
        self.assertIs(confirmed([[entry]], GREAT, GREAT, GREAT + 1, GREAT + 3), False)
        self.assertEqual(both([[entry]], GREAT, GREAT + 1, GREAT + 3, GREAT + 3), [0])


class BothTest(unittest.TestCase):
    def test_by_hand(self):
        one, two = (9, 3, 50, 70), (9, 3, 51, 71)
        books = [[one], [two, one], [], [one, (9, 4, 52, 71)], [one, (9, 4, 5, 6), two],
                 [one, (8, 3, 51, 71)], [two]]
        self.assertEqual(both(books, 9, 3, 70, 71), [1, 4])
        self.assertEqual(both(books, 9, 3, 71, 70), [1, 4])
        self.assertEqual(both(books, 9, 4, 71, 6), [])
        self.assertEqual(both(books, 8, 3, 70, 71), [])
        self.assertEqual(both(books, 9, 3, 70, 70), [0, 1, 3, 4, 5])

    def test_books_by_chance(self):
        overlaps = 0
        for seed, many in itertools.product(range(40), range(8)):
            chance = random.Random(100 * seed + many)
            books = some_books(chance, many)
            copies = [list(book) for book in books]
            for service, number in itertools.product(range(2), range(3)):
                for one, two in itertools.product(range(3), repeat=2):
                    overlaps += self.check_both(books, service, number, one, two)
            self.assertEqual(books, copies)
        self.assertGreater(overlaps, 100)

    def check_both(self, books, service, number, one, two):
        """Compares the judges with the second computation; returns how often the bound was met."""
        having = [[at for at, book in enumerate(books) if plain_has(book, service, number, digest)]
                  for digest in (one, two)]
        found = both(books, service, number, one, two)
        self.assertEqual(found, sorted(set(having[0]) & set(having[1])))
        met = 0
        for needed in range(9):
            told = [confirmed(books, needed, service, number, digest) for digest in (one, two)]
            self.assertEqual(told, [len(having[0]) >= needed, len(having[1]) >= needed])
            if told == [True, True]:
                self.assertGreaterEqual(len(found), 2 * needed - len(books))
                met += 2 * needed > len(books)
        return met

    def test_the_list_belongs_to_the_caller(self):
        books = [[(9, 3, 50, 70)]]
        both(books, 9, 3, 70, 70).clear()
        self.assertEqual(both(books, 9, 3, 70, 70), [0])


class OrderlyTest(unittest.TestCase):
    def test_by_hand(self):
        for book in (
            [],
            [(9, 3, 50, 70)],
            [(9, 3, 50, 70), (9, 4, 50, 70)],
            [(9, 3, 50, 70), (9, 7, 51, 70)],
            [(9, 3, 50, 70), (8, 3, 50, 70), (8, 4, 50, 71), (9, 4, 50, 71)],
            [(9, 0, 0, 0), (0, 0, 0, 0)],
            [(9, GREAT, GREAT, 70), (9, GREAT + 1, GREAT, 70)],
        ):
            self.assertIs(is_orderly(book), True)
        for book in (
            [(9, 3, 50, 70), (9, 3, 51, 71)],
            [(9, 3, 50, 70), (9, 3, 50, 70)],
            [(9, 3, 50, 70), (9, 2, 51, 70)],
            [(9, 3, 50, 70), (8, 2, 51, 70), (9, 3, 52, 70)],
            [(9, 3, 50, 70), (9, 4, 49, 70)],
            [(9, 3, 50, 70), (8, 3, 49, 70)],
            [(9, 0, 0, 0), (9, 0, 0, 0)],
            [(9, 3, 50, 70), (8, 0, 60, 70), (7, 0, 55, 70)],
        ):
            self.assertIs(is_orderly(book), False)

    def test_all_books_of_a_few_entries(self):
        entries = list(itertools.product(range(2), range(2), range(2), (70,)))
        found = {True: 0, False: 0}
        for many in range(4):
            for shown in itertools.product(entries, repeat=many):
                book = list(shown)
                self.assertIs(is_orderly(book), plain_orderly(book))
                self.assertEqual(book, list(shown))
                found[plain_orderly(book)] += 1
        self.assertGreater(found[True], 50)
        self.assertGreater(found[False], 50)

    def some_book(self, chance):
        """The book of a witness that signed heads of several services, one of them with a fork."""
        witness = Witness(Mixing(5, 7), 3)
        pasts = [Past(5, 7, service) for service in (1, 2, 3, 3)]
        for past in pasts:
            for number in range(8):
                past.close(10 + 2 * number, [chance.randrange(5)])
        for hour in range(10, 26):
            past = chance.choice(pasts)
            row = past.heads[(hour - 10) // 2]
            last = witness.last(past.service)
            paper = None if last is None or last[2] > row[2] else Paper(*past.back(row[2], last[2]))
            try:
                witness.sign(row, paper, hour)
            except WitnessError:
                pass
        return witness.book()

    def changed(self, chance, book):
        """The book with an entry moved, doubled or with another hour."""
        book = list(book)
        at = chance.randrange(len(book))
        to = chance.randrange(len(book))
        how = chance.randrange(3)
        if how == 0:
            book.insert(to, book.pop(at))
        elif how == 1:
            book.insert(to, book[at])
        else:
            service, number, hour, digest = book[at]
            book[at] = (service, number, max(0, hour + chance.choice((-3, -1, 1, 3))), digest)
        return book

    def test_the_book_of_a_witness_and_changed_ones(self):
        found = {True: 0, False: 0}
        for seed in range(200):
            chance = random.Random(seed)
            book = self.some_book(chance)
            self.assertGreater(len(book), 2)
            self.assertIs(is_orderly(book), True)
            for _ in range(10):
                changed = self.changed(chance, book)
                self.assertIs(is_orderly(changed), plain_orderly(changed), changed)
                found[plain_orderly(changed)] += 1
        self.assertGreater(found[True], 100)
        self.assertGreater(found[False], 100)

    def test_honest_witnesses_never_have_two_digests_of_one_round(self):
        for seed in range(100):
            chance = random.Random(seed)
            books = [self.some_book(chance) for _ in range(4)]
            for service, number in itertools.product((1, 2, 3), range(8)):
                for one, two in itertools.combinations(range(5), 2):
                    self.assertEqual(both(books, service, number, one, two), [])


if __name__ == "__main__":
    unittest.main()
