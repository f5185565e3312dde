import collections
import itertools
import random
import unittest

from sealround.digests import Mixing
from sealround.errors import WitnessError
from sealround.judges import is_orderly
from sealround.papers import Paper, is_accepted, joined
from sealround.things import beacon, document, head, renewal
from sealround.witnesses import Witness
from tests.pasts import Past
from tests.plain import plain_digest
from tests.plain_papers import plain_fault, plain_is_thing
from tests.wide import BOUND, FACTOR, WIDE, told

GREAT = 2 ** 70

NOT_A_HEAD = "not a head"
HOUR = "hour"
NOT_LATER = "not later"
NO_PAPER = "no paper"


def past_of(service, hours, bound=BOUND, factor=FACTOR):
    """A service that closed its rounds at these hours."""
    past = Past(bound, factor, service)
    for hour in hours:
        past.close(hour, [hour, service])
    return past


class PlainWitness:
    """A second witness: it goes through all that it has signed."""

    def __init__(self, bound, factor, slack):
        self.bound = bound
        self.factor = factor
        self.slack = slack
        self.signed = []

    def reason(self, row, paper, hour):
        """The first reason of the document that holds, or None; the paper is a pair or None."""
        if not plain_is_thing(row) or row[0] != 4:
            return NOT_A_HEAD
        if row[3] > hour + self.slack or hour > row[3] + self.slack:
            return HOUR
        before = [head for head, _ in self.signed if head[1] == row[1]]
        if any(head[2] >= row[2] for head in before):
            return NOT_LATER
        return self.reason_of_paper(before, row, paper)

    def reason_of_paper(self, before, row, paper):
        if not before or paper is None:
            return None if not before and paper is None else NO_PAPER
        first, steps = paper
        last = steps[-1][0] if steps else first
        right = plain_fault(self.bound, self.factor, first, steps) is None
        right = right and {place[0] for _, place in steps} <= {"back"}
        return None if right and first == before[-1] and last == row else NO_PAPER

    def sign(self, row, paper, hour):
        """The entry, or the reason."""
        reason = self.reason(row, paper, hour)
        if reason is not None:
            return reason
        entry = (row[1], row[2], hour, plain_digest(self.bound, self.factor, row))
        self.signed.append((row, entry))
        return entry

    def book(self):
        return [entry for _, entry in self.signed]

    def last(self, service):
        return next((row for row, _ in self.signed[::-1] if row[1] == service), None)


class WitnessCase(unittest.TestCase):
    def ask(self, witness, row, paper, hour):
        """What the witness answers: its entry, or the reason."""
        shown = None if paper is None else Paper(*paper)
        try:
            answer = witness.sign(row, shown, hour)
        except WitnessError as error:
            answer = error.reason
        if paper is not None:
            self.assertEqual((shown.first, shown.steps), paper)
        return answer

    def check_state(self, witness, plain, services):
        self.assertEqual(witness.book(), plain.book())
        self.assertIs(is_orderly(witness.book()), True)
        for service in services:
            self.assertEqual(witness.last(service), plain.last(service))


class ByHandTest(WitnessCase):
    def setUp(self):
        self.past = past_of(9, [50, 60, 70, 80, 90])
        self.witness = Witness(WIDE, 5)

    def check(self, answer, row, paper, hour):
        self.assertEqual(self.ask(self.witness, row, paper, hour), answer)

    def sign_rounds(self, *numbers):
        """The heads of these rounds are signed, each at its own hour."""
        before = None
        for number in numbers:
            row = self.past.heads[number]
            paper = None if before is None else self.past.back(number, before)
            self.check((9, number, row[3], told(row)), row, paper, row[3])
            before = number

    def test_nothing_signed(self):
        self.assertEqual(self.witness.book(), [])
        self.assertIsNone(self.witness.last(9))

    def test_each_head_behind_the_one_before(self):
        self.sign_rounds(0, 1, 2, 3, 4)
        entries = [(9, row[2], row[3], told(row)) for row in self.past.heads]
        self.assertEqual(self.witness.book(), entries)
        self.assertEqual(self.witness.last(9), self.past.heads[4])

    def test_rounds_may_be_left_out(self):
        self.sign_rounds(1, 4)
        self.assertEqual([entry[1] for entry in self.witness.book()], [1, 4])

    def test_the_entry_is_a_tuple_with_the_hour_of_the_witness(self):
        row = self.past.heads[0]
        entry = self.witness.sign(row, None, 53)
        self.assertIs(type(entry), tuple)
        self.assertEqual(entry, (9, 0, 53, told(row)))
        self.assertEqual(self.witness.book(), [entry])

    def test_not_a_head(self):
        for row in ((), (0,), beacon(50, 50), document([], [50]), renewal(50), (3, 50, 50), (4,),
                    (4, 9, 0, 50, 0, 7), (4, 9, 0, 50, 1), (4, 9, 1, 50, 1, 7), (4, 9, 0, 50, 1, 7, 8)):
            self.check(NOT_A_HEAD, row, None, 50)
            self.check(NOT_A_HEAD, row, (row, []), 1000)
        self.assertEqual(self.witness.book(), [])

    def test_hours_at_the_slack_and_beyond(self):
        for slack, hour in itertools.product((0, 1, 5), range(40, 61)):
            self.witness = Witness(WIDE, slack)
            row = self.past.heads[0]
            near = abs(hour - 50) <= slack
            self.check((9, 0, hour, told(row)) if near else HOUR, row, None, hour)
            self.assertEqual(len(self.witness.book()), int(near))

    def test_not_later(self):
        self.sign_rounds(0, 2)
        for number in range(3):
            row = head(9, number, 71, 1, 5, [7] * (0, 1, 2)[number])
            for paper in (None, self.past.back(2, number), (row, [])):
                self.check(NOT_LATER, row, paper, 71)
        self.check(NOT_LATER, self.past.heads[2], self.past.back(2, 2), 71)
        self.assertEqual(self.witness.last(9), self.past.heads[2])

    def test_a_first_head_with_a_paper(self):
        for number in range(3):
            row = self.past.heads[number]
            for paper in ((row, []), self.past.back(number, 0)):
                self.check(NO_PAPER, row, paper, row[3])
        self.assertEqual(self.witness.book(), [])
        self.sign_rounds(2)

    def test_wrong_papers(self):
        self.sign_rounds(1)
        heads = self.past.heads
        row = heads[4]
        first, steps = self.past.back(4, 1)
        self.assertEqual(len(steps), 2)
        wrong = {
            "none": None,
            "cut short at its end": (first, steps[:-1]),
            "cut short at its beginning": (steps[0][0], steps[1:]),
            "empty": (row, []),
            "empty at the last head": (first, []),
            "begins with another head": self.past.back(4, 0),
            "ends with another row": self.past.back(3, 1),
            "a step left out": (first, steps[1:]),
            "a step twice": (first, [steps[0], *steps]),
            "another place": (first, [steps[0], (row, ("back", 0))]),
            "no such place": (first, [steps[0], (row, ("back", 9))]),
            "a row that is no thing": (first, [((3, 1, 2), ("back", 0)), *steps]),
            "turned round": (row, steps[::-1]),
        }
        for name, paper in wrong.items():
            with self.subTest(name=name):
                self.check(NO_PAPER, row, paper, 90)
                self.assertEqual(self.witness.book(), [(9, 1, 60, told(heads[1]))])
                self.assertEqual(self.witness.last(9), heads[1])
        self.check((9, 4, 90, told(row)), row, (first, steps), 90)

    def test_steps_at_a_cite_or_at_an_entry(self):
        self.sign_rounds(0, 1)
        last = self.past.heads[1]
        letter = document([told(last)], [])
        entries = [told(letter), told(last)]
        row = self.past.branch(2).close(70, entries)
        papers = [
            (last, [(row, ("entry", 1, (told(letter),)))]),
            (last, [(letter, ("cite", 0)), (row, ("entry", 0, (told(last),)))]),
        ]
        for first, steps in papers:
            self.assertIs(is_accepted(WIDE, Paper(first, steps)), True)
            self.check(NO_PAPER, row, (first, steps), 70)
        self.check((9, 2, 70, told(row)), row, (last, [(row, ("back", 0))]), 70)

    def test_another_past(self):
        self.sign_rounds(0, 1)
        other = past_of(9, [50, 61, 70])
        row = other.heads[2]
        for paper in (other.back(2, 1), other.back(2, 0), (self.past.heads[1], [(row, ("back", 0))])):
            self.check(NO_PAPER, row, paper, 70)
        self.assertEqual(self.witness.last(9), self.past.heads[1])

    def test_the_first_reason_counts(self):
        self.check(NOT_A_HEAD, (4, 9, 0, 50), ((), []), 900)
        self.sign_rounds(1)
        self.check(NOT_A_HEAD, (4, 9, 0, 50), None, 900)
        self.check(HOUR, self.past.heads[0], None, 60)
        self.check(HOUR, self.past.heads[2], None, 900)
        self.check(HOUR, self.past.heads[1], None, 900)
        row = head(9, 0, 60, 1, 5, [])
        self.check(NOT_LATER, row, None, 60)
        self.check(NO_PAPER, self.past.heads[2], None, 70)

    def test_services_beside_one_another(self):
        other = past_of(8, [55, 65, 66])
        self.sign_rounds(2)
        self.check((8, 0, 70, told(head(8, 0, 70, 1, 5, []))), head(8, 0, 70, 1, 5, []), None, 70)
        self.assertIsNone(self.witness.last(7))
        self.assertEqual(self.witness.last(8), head(8, 0, 70, 1, 5, []))
        self.assertEqual(self.witness.last(9), self.past.heads[2])
        self.check(NO_PAPER, other.heads[2], None, 71)
        self.check(NO_PAPER, other.heads[2], other.back(2, 0), 71)
        self.check((9, 3, 80, told(self.past.heads[3])), self.past.heads[3], self.past.back(3, 2), 80)
        self.assertEqual(len(self.witness.book()), 3)

    def test_two_witnesses_do_not_touch_one_another(self):
        self.sign_rounds(0)
        other = Witness(WIDE, 5)
        self.assertEqual((other.book(), other.last(9)), ([], None))
        self.assertEqual(len(self.witness.book()), 1)

    def test_what_was_handed_out_belongs_to_the_caller(self):
        self.sign_rounds(0, 1)
        book = self.witness.book()
        self.witness.book().clear()
        book.reverse()
        self.assertEqual([entry[1] for entry in self.witness.book()], [0, 1])

    def test_a_paper_that_is_changed_afterwards(self):
        self.sign_rounds(0)
        paper = Paper(*self.past.back(1, 0))
        self.witness.sign(self.past.heads[1], paper, 60)
        paper.steps.clear()
        paper.first = ()
        self.assertEqual(self.witness.last(9), self.past.heads[1])
        self.assertEqual(self.ask(self.witness, self.past.heads[2], self.past.back(2, 1), 70),
                         (9, 2, 70, told(self.past.heads[2])))

    def test_great_numbers(self):
        witness = Witness(WIDE, GREAT)
        row = head(GREAT, GREAT, 3 * GREAT, 1, GREAT, [0] * 71)
        self.assertEqual(self.ask(witness, row, None, 2 * GREAT - 1), HOUR)
        self.assertEqual(self.ask(witness, row, None, 4 * GREAT + 1), HOUR)
        expected = (GREAT, GREAT, 2 * GREAT, told(row))
        self.assertEqual(self.ask(witness, row, None, 2 * GREAT), expected)
        self.assertEqual(witness.last(GREAT), row)


class AskedAgainTest(WitnessCase):
    """A witness that is asked again and again, against the second one."""

    def some_paper(self, chance, past, last, number):
        """The right paper, or one with something wrong in it, or None."""
        start = 0 if last is None else last[2]
        first, steps = past.back(number, min(start, number))
        how = chance.randrange(12)
        if how < 2:
            return None
        if how == 2:
            return first, steps[:-1]
        if how == 3:
            return past.back(number, chance.randrange(number + 1))
        if how == 4:
            later = chance.randrange(number, len(past.heads))
            return past.back(later, min(start, number))
        if how == 5 and steps:
            at = chance.randrange(len(steps))
            place = chance.choice((("cite", 0), ("entry", 0, (1,)), ("back", 1), ("back", 5)))
            return first, steps[:at] + [(steps[at][0], place)] + steps[at + 1:]
        return first, steps

    def some_row(self, chance, row):
        how = chance.randrange(10)
        if how == 0:
            return chance.choice(((), (1, 2, 3), (2, 0), (5, 7), row[:-1], row + (7,)))
        if how == 1:
            at = chance.randrange(1, len(row))
            return row[:at] + (row[at] + chance.choice((1, 2)),) + row[at + 1:]
        return row

    def test_by_chance(self):
        for bound, factor in ((BOUND, FACTOR), (3, 7), (20, 48271)):
            met = collections.Counter()
            for seed in range(60):
                chance = random.Random(seed)
                self.check_witness(chance, bound, factor, met)
            for answer in (NOT_A_HEAD, HOUR, NOT_LATER, NO_PAPER, "first", "later"):
                self.assertGreater(met[answer], 50, (bound, answer))

    def check_witness(self, chance, bound, factor, met):
        services = (1, 2, 3)
        pasts = [past_of(service, range(service, 60 + service, 4), bound, factor) for service in services]
        pasts += [past.branch(3) for past in pasts[:2]]
        for past in pasts[3:]:
            for number in range(3, 15):
                past.close(4 * number + 2, [7])
        slack = chance.choice((0, 1, 4, 9))
        witness, plain = Witness(Mixing(bound, factor), slack), PlainWitness(bound, factor, slack)
        hour = 0
        while hour < 70:
            hour += chance.choice((0, 0, 1, 1, 2))
            past = chance.choice(pasts)
            near = hour // 4 + chance.choice((-1, 0, 0, 0, 1))
            number = min(max(0, near), len(past.heads) - 1)
            paper = self.some_paper(chance, past, plain.last(past.service), number)
            row = self.some_row(chance, past.heads[number])
            later = plain.last(row[1]) is not None if len(row) > 1 else False
            expected = plain.sign(row, paper, hour)
            self.assertEqual(self.ask(witness, row, paper, hour), expected)
            self.check_state(witness, plain, services)
            signed = type(expected) is tuple
            met[("later" if later else "first") if signed else expected] += 1


class PapersJoinTest(WitnessCase):
    def test_papers_that_were_shown_join(self):
        for bound, factor in ((BOUND, FACTOR), (5, 7)):
            mixing = Mixing(bound, factor)
            for seed in range(20):
                chance = random.Random(seed)
                past = past_of(9, range(100, 140), bound, factor)
                numbers = sorted(chance.sample(range(40), chance.randint(2, 12)))
                witness = Witness(mixing, 0)
                shown = []
                for before, number in zip([None, *numbers], numbers):
                    row = past.heads[number]
                    paper = None if before is None else Paper(*past.back(number, before))
                    witness.sign(row, paper, row[3])
                    shown.append(paper)
                self.assertEqual([entry[1] for entry in witness.book()], numbers)
                self.check_joined(mixing, past, numbers, shown)

    def check_joined(self, mixing, past, numbers, shown):
        for low, high in itertools.combinations(range(len(numbers)), 2):
            paper = shown[low + 1]
            for following in shown[low + 2:high + 1]:
                paper = joined(paper, following)
            last = paper.steps[-1][0]
            self.assertEqual(paper.first, past.heads[numbers[low]])
            self.assertEqual(last, past.heads[numbers[high]])
            self.assertIs(is_accepted(mixing, paper), True)


if __name__ == "__main__":
    unittest.main()
