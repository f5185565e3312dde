import itertools
import random
import unittest

from sealround.digests import Mixing
from sealround.errors import JournalError, ServiceError
from sealround.journals import mended
from sealround.services import Service
from tests.wide import BOUND, FACTOR, WIDE

GREAT = 2 ** 70

NOT_A_DEED = "not a deed"
EMPTY = "empty"
HOUR = "hour"


def done(mixing, deeds):
    """A service that has done these deeds and never fell."""
    service = Service(9, mixing)
    for kind, number in deeds:
        if kind == 1:
            service.enter(number)
        else:
            service.close(number)
    return service


def pairs_of(journal):
    """The whole deeds of a journal."""
    return [journal[at:at + 2] for at in range(0, len(journal) - 1, 2)]


def plain_fault(journal):
    """The number of the first deed that no service has done and its reason, or None."""
    entered, last = 0, None
    for deed, (kind, number) in enumerate(pairs_of(journal)):
        if kind not in (1, 2):
            return deed, NOT_A_DEED
        if kind == 1:
            entered += 1
            continue
        if entered == 0:
            return deed, EMPTY
        if last is not None and number <= last:
            return deed, HOUR
        entered, last = 0, number
    return None


def some_deeds(chance, bound, many):
    """Deeds that a service does, with refused closings in between that its journal leaves out."""
    deeds = []
    hour = chance.randrange(3)
    for _ in range(many):
        if chance.random() < 0.6:
            deeds.append((1, chance.randrange(bound)))
        else:
            deeds.append((2, hour))
            hour += chance.choice((0, 1, 1, 5))
    return deeds


def run(service, deeds):
    """Does the deeds; what is answered."""
    answers = []
    for kind, number in deeds:
        try:
            answers.append(service.enter(number) if kind == 1 else service.close(number))
        except ServiceError as error:
            answers.append(error.reason)
    return answers


class JournalCase(unittest.TestCase):
    def same(self, one, two):
        """Both services show the same in everything."""
        self.assertEqual((one.name, one.mixing), (two.name, two.mixing))
        self.assertEqual(one.journal(), two.journal())
        self.assertEqual(one.rounds(), two.rounds())
        many = two.rounds()
        for number in range(many + 1):
            self.assertEqual(one.entries(number), two.entries(number))
        for number in range(many):
            self.assertEqual(one.head(number), two.head(number))
            for index in range(len(two.entries(number))):
                papers = [service.stamp((2, 0, index), number, index) for service in (one, two)]
                self.assertEqual(papers[0].first, papers[1].first)
                self.assertEqual(papers[0].steps, papers[1].steps)
        for start, end in itertools.product(range(many), repeat=2):
            if end <= start:
                papers = [service.back(start, end) for service in (one, two)]
                self.assertEqual(papers[0].first, papers[1].first)
                self.assertEqual(papers[0].steps, papers[1].steps)

    def refused(self, deed, reason, journal):
        with self.assertRaises(JournalError) as caught:
            mended(9, WIDE, journal)
        self.assertEqual((caught.exception.deed, caught.exception.reason), (deed, reason), journal)


class ByHandTest(JournalCase):
    def test_an_empty_journal(self):
        self.same(mended(9, WIDE, ()), Service(9, WIDE))

    def test_each_beginning(self):
        journal = (1, 7, 1, 8, 2, 50, 1, 7, 2, 51, 1, GREAT)
        for length in range(len(journal) + 1):
            service = mended(9, WIDE, journal[:length])
            self.assertIs(type(service), Service)
            self.same(service, done(WIDE, pairs_of(journal[:length])))
            self.assertEqual(service.journal(), journal[:length - length % 2])

    def test_a_single_number_at_the_end_is_left_out(self):
        for journal in ((), (1, 7), (1, 7, 2, 50), (1, 7, 2, 50, 1, 8)):
            for number in (0, 1, 2, 3, 7, GREAT):
                service = mended(9, WIDE, journal + (number,))
                self.same(service, done(WIDE, pairs_of(journal)))
                self.assertEqual(service.journal(), journal)

    def test_not_a_deed(self):
        for kind in (0, 3, 4, 7, GREAT):
            self.refused(0, NOT_A_DEED, (kind, 7))
            self.refused(0, NOT_A_DEED, (kind, 7, kind, 7, 2, 50))
            self.refused(1, NOT_A_DEED, (1, 7, kind, 7))
            self.refused(3, NOT_A_DEED, (1, 7, 2, 50, 1, 7, kind, 7, 2, 40))
            self.refused(1, NOT_A_DEED, (1, 7, kind, 7, 1))

    def test_an_empty_round(self):
        self.refused(0, EMPTY, (2, 50))
        self.refused(0, EMPTY, (2, 50, 1, 7))
        self.refused(2, EMPTY, (1, 7, 2, 50, 2, 51))
        self.refused(2, EMPTY, (1, 7, 2, 50, 2, 50))
        self.refused(2, EMPTY, (1, 7, 2, 50, 2, 0, 3, 3))

    def test_an_hour_that_is_not_greater(self):
        for hour in (0, 49, 50):
            self.refused(3, HOUR, (1, 7, 2, 50, 1, 7, 2, hour))
            self.refused(4, HOUR, (1, 7, 2, 50, 1, 7, 1, 7, 2, hour, 2, hour))
        self.assertEqual(mended(9, WIDE, (1, 7, 2, 50, 1, 7, 2, 51)).rounds(), 2)
        self.assertEqual(mended(9, WIDE, (1, 7, 2, 0)).rounds(), 1)

    def test_the_first_deed_counts(self):
        wrong = {NOT_A_DEED: (3, 7), EMPTY: (2, 60), HOUR: (2, 50)}
        begun = (1, 7, 2, 50)
        for (one, deed), (_, other) in itertools.product(wrong.items(), repeat=2):
            before = begun + (1, 8) if one == HOUR else begun
            self.refused(len(before) // 2, one, before + deed + other)

    def test_all_short_journals(self):
        refused = 0
        for length in range(9):
            for journal in itertools.product(range(1, 3), repeat=length):
                refused += self.check_journal(journal)
        for length in range(5):
            for journal in itertools.product(range(4), repeat=length):
                refused += self.check_journal(journal)
        self.assertGreater(refused, 100)

    def check_journal(self, journal):
        """Compares with the second reckoning; whether the journal is refused."""
        fault = plain_fault(journal)
        if fault is None:
            self.same(mended(9, WIDE, journal), done(WIDE, pairs_of(journal)))
        else:
            self.refused(*fault, journal)
        return fault is not None

    def test_other_names_and_mixings(self):
        journal = (1, 7, 1, 8, 2, 50)
        for name, mixing in itertools.product((0, 9, GREAT), (WIDE, Mixing(2, 3))):
            service = mended(name, mixing, journal)
            self.assertEqual(service.name, name)
            self.assertIs(service.mixing, mixing)
            self.assertEqual(service.head(0)[:5], (4, name, 0, 50, 2))

    def test_digests_that_no_mixing_gives(self):
        # The document names no reason for them: what is entered is any number.
        service = mended(9, Mixing(2, 3), (1, GREAT, 2, 50))
        self.assertEqual(service.entries(0), [GREAT])


class MendedTest(JournalCase):
    def test_from_every_beginning_and_on(self):
        for bound, factor in ((BOUND, FACTOR), (3, 7)):
            for seed in range(6):
                chance = random.Random(seed)
                mixing = Mixing(bound, factor)
                whole = Service(9, mixing)
                run(whole, some_deeds(chance, bound, 24))
                journal = whole.journal()
                later = some_deeds(chance, bound, 10)
                for length in range(len(journal) + 1):
                    service = mended(9, mixing, journal[:length])
                    steady = done(mixing, pairs_of(journal[:length]))
                    self.same(service, steady)
                    self.assertEqual(run(service, later), run(steady, later))
                    self.same(service, steady)

    def test_falling_again_and_again(self):
        for seed in range(10):
            chance = random.Random(seed)
            deeds = some_deeds(chance, 100, 80)
            steady, service = Service(9, WIDE), Service(9, WIDE)
            for deed in deeds:
                if chance.random() < 0.3:
                    more = (chance.randrange(4),) * chance.randrange(2)
                    service = mended(9, WIDE, service.journal() + more)
                self.assertEqual(run(service, [deed]), run(steady, [deed]))
            self.same(service, steady)

    def test_a_mended_service_and_the_one_that_fell_do_not_touch_one_another(self):
        fallen = done(WIDE, [(1, 7), (2, 50), (1, 8)])
        journal = fallen.journal()
        service = mended(9, WIDE, journal)
        service.enter(9)
        service.close(60)
        self.assertEqual((fallen.rounds(), fallen.entries(1), fallen.journal()), (1, [8], journal))
        self.assertEqual((service.rounds(), service.entries(1)), (2, [8, 9]))

    def test_changed_journals(self):
        found = {None: 0, NOT_A_DEED: 0, EMPTY: 0, HOUR: 0}
        for seed in range(300):
            chance = random.Random(seed)
            whole = Service(9, WIDE)
            run(whole, some_deeds(chance, 100, 12))
            journal = list(whole.journal())
            for _ in range(chance.randint(1, 3)):
                at = chance.randrange(len(journal) + 1)
                how = chance.randrange(3)
                if how == 0:
                    journal[at:at + 1] = [chance.randrange(4)]
                elif how == 1:
                    journal.insert(at, chance.randrange(3))
                else:
                    del journal[at:at + chance.randint(1, 2)]
            fault = plain_fault(tuple(journal))
            found[fault and fault[1]] += 1
            if fault is None:
                service = mended(9, WIDE, tuple(journal))
                self.same(service, done(WIDE, pairs_of(tuple(journal))))
            else:
                self.refused(*fault, tuple(journal))
        for many in found.values():
            self.assertGreater(many, 15)


if __name__ == "__main__":
    unittest.main()
