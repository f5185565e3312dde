import itertools
import random
import unittest

from sealround.digests import Mixing
from sealround.errors import PaperError, ServiceError
from sealround.links import BACK
from sealround.papers import Paper, check, is_accepted
from sealround.services import Service
from sealround.things import beacon, document
from tests.pasts import Past, plain_way_back
from tests.plain import plain_climb, plain_digest
from tests.plain_papers import plain_is_thing, plain_sides
from tests.wide import BOUND, FACTOR, WIDE, told

GREAT = 2 ** 70

EMPTY = "empty"
HOUR = "hour"


class PlainService:
    """A second service: a past, the open round and the journal."""

    def __init__(self, bound, factor, name):
        self.past = Past(bound, factor, name)
        self.opened = []
        self.deeds = ()

    def enter(self, digest):
        self.opened.append(digest)
        self.deeds += (1, digest)
        return len(self.opened) - 1

    def close(self, hour):
        """The head, or the reason of the error."""
        if not self.opened:
            return EMPTY
        if self.past.heads and self.past.heads[-1][3] >= hour:
            return HOUR
        row = self.past.close(hour, self.opened)
        self.opened = []
        self.deeds += (2, hour)
        return row


class ServiceCase(unittest.TestCase):
    def close(self, service, hour):
        """The head, or the reason of the error."""
        try:
            return service.close(hour)
        except ServiceError as error:
            return error.reason

    def check_state(self, service, plain):
        """The service has just the rounds, the open round and the journal of the second one."""
        many = len(plain.past.heads)
        self.assertEqual(service.rounds(), many)
        self.assertEqual([service.head(number) for number in range(many)], plain.past.heads)
        self.assertEqual([service.entries(number) for number in range(many)], plain.past.entries)
        self.assertEqual(service.entries(many), plain.opened)
        self.assertEqual(service.journal(), plain.deeds)
        self.assertIs(type(service.journal()), tuple)

    def check_papers(self, service, past, bound, factor):
        """The papers back between all rounds, twice, against those of the past."""
        mixing = Mixing(bound, factor)
        for _ in range(2):
            for start, end in itertools.product(range(len(past.heads)), repeat=2):
                if end <= start:
                    paper = service.back(start, end)
                    self.assertEqual((paper.first, paper.steps), past.back(start, end))
                    self.assertIs(is_accepted(mixing, paper), True)
                    self.assertLessEqual({place[0] for _, place in paper.steps}, {BACK})
                    paper.steps.clear()


class ByHandTest(ServiceCase):
    def setUp(self):
        self.service = Service(9, WIDE)

    def closed(self, *hours):
        """Closes a round with a few entries at each hour."""
        for hour in hours:
            for digest in (hour, 5, hour + 1):
                self.service.enter(digest)
            self.service.close(hour)

    def test_a_new_service(self):
        self.assertEqual(self.service.name, 9)
        self.assertIs(self.service.mixing, WIDE)
        self.assertEqual(self.service.rounds(), 0)
        self.assertEqual(self.service.entries(0), [])
        self.assertEqual(self.service.journal(), ())

    def test_enter_gives_the_index_in_the_open_round(self):
        for number in range(3):
            for index, digest in enumerate((7, 7, 0, GREAT, 7)):
                self.assertEqual(self.service.enter(digest), index)
                self.assertEqual(self.service.entries(number), [7, 7, 0, GREAT, 7][:index + 1])
            self.service.close(50 + number)
            self.assertEqual(self.service.entries(number), [7, 7, 0, GREAT, 7])
            self.assertEqual(self.service.entries(number + 1), [])

    def test_the_heads_of_the_first_rounds(self):
        rows = []
        for number, backs in enumerate(([], [0], [1, 0], [2], [3, 2, 0], [4], [5, 4], [6], [7, 6, 4, 0])):
            self.service.enter(70 + number)
            row = self.service.close(50 + 2 * number)
            marks = [told(rows[back]) for back in backs]
            self.assertEqual(row, (4, 9, number, 50 + 2 * number, 1, 70 + number, *marks))
            self.assertIs(type(row), tuple)
            rows.append(row)
            self.assertEqual(self.service.head(number), row)
            self.assertEqual(self.service.rounds(), number + 1)

    def test_the_root_of_the_entries(self):
        for digest in (7, 8, 9):
            self.service.enter(digest)
        inner = plain_digest(BOUND, FACTOR, (3, 7, 8))
        root = plain_digest(BOUND, FACTOR, (3, inner, 9))
        self.assertEqual(self.service.close(0), (4, 9, 0, 0, 3, root))

    def test_an_empty_round(self):
        for _ in range(2):
            self.assertEqual(self.close(self.service, 50), EMPTY)
            self.assertEqual((self.service.rounds(), self.service.journal()), (0, ()))
        self.closed(50)
        journal = self.service.journal()
        for hour in (0, 50, 51, GREAT):
            # The empty round is told ahead of the hour.
            self.assertEqual(self.close(self.service, hour), EMPTY)
            self.assertEqual((self.service.rounds(), self.service.journal()), (1, journal))

    def test_the_hour_is_greater_than_that_of_the_last_head(self):
        self.closed(50)
        self.service.enter(7)
        journal = self.service.journal()
        for hour in (0, 49, 50):
            self.assertEqual(self.close(self.service, hour), HOUR)
            self.assertEqual((self.service.rounds(), self.service.entries(1)), (1, [7]))
            self.assertEqual(self.service.journal(), journal)
        self.assertEqual(self.close(self.service, 51)[:4], (4, 9, 1, 51))
        self.service.enter(7)
        self.assertEqual(self.close(self.service, 51), HOUR)
        self.assertEqual(self.close(self.service, 52)[:4], (4, 9, 2, 52))

    def test_the_first_round_may_close_at_any_hour(self):
        for hour in (0, 1, GREAT):
            service = Service(9, WIDE)
            service.enter(7)
            self.assertEqual(service.close(hour), (4, 9, 0, hour, 1, 7))

    def test_the_journal(self):
        self.service.enter(7)
        self.assertEqual(self.service.journal(), (1, 7))
        self.service.enter(8)
        self.service.close(50)
        self.assertEqual(self.service.journal(), (1, 7, 1, 8, 2, 50))
        self.close(self.service, 60)
        self.service.enter(GREAT)
        self.close(self.service, 50)
        self.service.close(GREAT)
        self.assertEqual(self.service.journal(), (1, 7, 1, 8, 2, 50, 1, GREAT, 2, GREAT))

    def test_papers_back_by_hand(self):
        self.closed(*range(50, 64))
        heads = [self.service.head(number) for number in range(14)]
        self.assertEqual(plain_way_back(13, 5), [13, 12, 8, 6, 5])
        paper = self.service.back(13, 5)
        self.assertIs(type(paper), Paper)
        self.assertEqual(paper.first, heads[5])
        steps = [(heads[6], (BACK, 0)), (heads[8], (BACK, 1)), (heads[12], (BACK, 2)),
                 (heads[13], (BACK, 0))]
        self.assertEqual(paper.steps, steps)
        self.assertEqual(self.service.back(8, 0).steps, [(heads[8], (BACK, 3))])
        for number in range(14):
            paper = self.service.back(number, number)
            self.assertEqual((paper.first, paper.steps), (heads[number], []))

    def test_what_was_handed_out_can_be_changed(self):
        self.closed(50, 60)
        self.service.enter(7)
        for number in range(3):
            self.service.entries(number).clear()
            self.service.entries(number).append(8)
        self.service.back(1, 0).steps.clear()
        self.service.stamp((2, 0), 0, 0).steps.clear()
        self.assertEqual([self.service.entries(number) for number in range(3)],
                         [[50, 5, 51], [60, 5, 61], [7]])
        self.assertEqual(len(self.service.back(1, 0).steps), 1)
        self.assertEqual(len(self.service.stamp((2, 0), 0, 0).steps), 1)

    def test_two_services_do_not_touch_one_another(self):
        other = Service(9, WIDE)
        self.closed(50)
        self.service.enter(7)
        self.assertEqual((other.rounds(), other.entries(0), other.journal()), (0, [], ()))

    def test_great_numbers(self):
        service = Service(GREAT, WIDE)
        for at in range(3):
            for digest in (GREAT, GREAT + at):
                service.enter(digest)
            service.close(GREAT + at)
        past = Past(BOUND, FACTOR, GREAT)
        for at in range(3):
            past.close(GREAT + at, [GREAT, GREAT + at])
        self.assertEqual([service.head(number) for number in range(3)], past.heads)
        self.check_papers(service, past, BOUND, FACTOR)


class StampTest(ServiceCase):
    def test_stamps_of_what_was_entered(self):
        for bound, factor in ((BOUND, FACTOR), (3, 7)):
            for count in range(1, 10):
                self.check_stamps(bound, factor, count)

    def check_stamps(self, bound, factor, count):
        service = Service(9, Mixing(bound, factor))
        past = Past(bound, factor, 9)
        rows = [beacon(3, 4), document([], [5]), document([6, 7], []), (5, 8), (4, 8, 0, 7, 1, 6)]
        for number in range(3):
            entered = [rows[(at * at + number) % 5] for at in range(count)]
            for row in entered:
                service.enter(plain_digest(bound, factor, row))
            service.close(50 + number)
            past.close(50 + number, [plain_digest(bound, factor, row) for row in entered])
            for index, row in enumerate(entered):
                for _ in range(2):
                    paper = service.stamp(row, number, index)
                    self.assertIs(type(paper), Paper)
                    self.assertEqual((paper.first, paper.steps), past.stamp(row, number, index))
                    digests = [plain_digest(bound, factor, shown) for shown in (row, past.heads[number])]
                    self.assertEqual(check(service.mixing, paper), tuple(digests))

    def test_stamps_of_other_rows(self):
        found = {True: 0, False: 0}
        for bound, factor in ((BOUND, FACTOR), (2, 3), (5, 48271)):
            service = Service(9, Mixing(bound, factor))
            entries = [plain_digest(bound, factor, (1, 3, at)) for at in range(5)]
            for digest in entries:
                service.enter(digest)
            row = service.close(50)
            for index, value in itertools.product(range(5), range(12)):
                other = beacon(3, value)
                paper = service.stamp(other, 0, index)
                mark = plain_digest(bound, factor, other)
                way = paper.steps[0][1][2]
                climbed = plain_climb(bound, factor, plain_sides(5, index), mark, way)[1]
                self.assertEqual((paper.first, paper.steps), (other, [(row, ("entry", index, way))]))
                self.assertIs(is_accepted(service.mixing, paper), climbed == row[5])
                found[climbed == row[5]] += 1
                if climbed != row[5]:
                    with self.assertRaises(PaperError) as caught:
                        check(service.mixing, paper)
                    self.assertEqual(caught.exception.reason, "not this digest")
        self.assertGreater(found[True], 20)
        self.assertGreater(found[False], 50)

    def test_a_stamp_of_a_row_that_is_no_thing(self):
        service = Service(9, WIDE)
        node = (3, 1, 2)
        service.enter(plain_digest(BOUND, FACTOR, node))
        service.close(50)
        paper = service.stamp(node, 0, 0)
        self.assertIs(plain_is_thing(node), False)
        self.assertEqual(paper.first, node)
        self.assertIs(is_accepted(WIDE, paper), False)


class BackTest(ServiceCase):
    def test_between_all_rounds(self):
        for bound, factor, many in ((BOUND, FACTOR, 40), (2, 3, 20), (5, 48271, 20)):
            service = Service(9, Mixing(bound, factor))
            past = Past(bound, factor, 9)
            for number in range(many):
                service.enter(number % bound)
                self.assertEqual(service.close(3 * number), past.close(3 * number, [number % bound]))
            self.check_papers(service, past, bound, factor)
            for start, end in itertools.product(range(many), repeat=2):
                if end <= start:
                    steps = service.back(start, end).steps
                    self.assertEqual(len(steps), len(plain_way_back(start, end)) - 1)

    def test_papers_back_stay_the_same_when_rounds_are_closed(self):
        service = Service(9, WIDE)
        shown = {}
        for number in range(20):
            service.enter(number)
            service.close(number)
            for end in range(number + 1):
                paper = service.back(number, end)
                shown[number, end] = (paper.first, paper.steps)
        for (start, end), expected in shown.items():
            paper = service.back(start, end)
            self.assertEqual((paper.first, paper.steps), expected)


class ChanceTest(ServiceCase):
    def test_deeds_by_chance(self):
        refused = {EMPTY: 0, HOUR: 0}
        for bound, factor in ((BOUND, FACTOR), (3, 7), (30, 48271)):
            for seed in range(20):
                chance = random.Random(seed)
                service, plain = Service(seed, Mixing(bound, factor)), PlainService(bound, factor, seed)
                for hour in range(60):
                    if chance.random() < 0.6:
                        digest = chance.randrange(bound)
                        self.assertEqual(service.enter(digest), plain.enter(digest))
                    else:
                        shown = max(0, hour + chance.choice((-9, -1, 0, 1)))
                        found = self.close(service, shown)
                        self.assertEqual(found, plain.close(shown))
                        if found in refused:
                            refused[found] += 1
                    self.check_state(service, plain)
                self.check_papers(service, plain.past, bound, factor)
        self.assertGreater(min(refused.values()), 50)


if __name__ == "__main__":
    unittest.main()
