import collections
import itertools
import random
import unittest

from sealround.digests import Mixing
from sealround.errors import NotebookError
from sealround.notebooks import Notebook, foretold, window
from sealround.papers import Paper, is_accepted
from sealround.things import beacon, document
from tests.plain import PRIME
from tests.plain_checks import plain_own_way
from tests.plain_papers import plain_fault, plain_is_thing
from tests.wide import BOUND, FACTOR, WIDE, cite, head_of, told

GREAT = 2 ** 70

NOT_A_BEACON = "not a beacon"
NOT_A_HEAD = "not a head"
HOUR = "hour"


def stamp(row, at, others, hour=50):
    """The paper from a row to a new head, in which it stands among other entries."""
    entries = [*others[:at], told(row), *others[at:]]
    way = plain_own_way(BOUND, FACTOR, entries, at)
    return Paper(row, [(head_of(entries, hour=hour), ("entry", at, way))])


class PlainNotebook:
    """A second notebook: lists that are searched from their beginning."""

    def __init__(self):
        self.beacons = []
        self.sights = []

    def note(self, row):
        """The reason of the error, or None."""
        if not plain_is_thing(row) or row[0] != 1:
            return NOT_A_BEACON
        self.beacons.append(row)
        return None

    def see(self, row, hour):
        if not plain_is_thing(row) or row[0] != 4:
            return NOT_A_HEAD
        if self.sights and hour < self.sights[-1][1]:
            return HOUR
        self.sights.append((row, hour))
        return None

    def seen(self, row):
        return next((hour for shown, hour in self.sights if shown == row), None)

    def parts(self, row, papers, bound, factor):
        """The papers that count for both parts of a window: pairs (hour, paper)."""
        found = ([], [])
        for paper in papers:
            if plain_fault(bound, factor, paper.first, paper.steps) is None:
                last = paper.steps[-1][0] if paper.steps else paper.first
                if paper.first in self.beacons and last == row:
                    found[0].append((paper.first[1], paper))
                if self.seen(last) is not None and paper.first == row:
                    found[1].append((self.seen(last), paper))
        return found

    def window(self, row, papers, bound=BOUND, factor=FACTOR):
        lower, upper = self.parts(row, papers, bound, factor)
        return (
            sorted(hour for hour, _ in lower)[-1] if lower else None,
            sorted(hour for hour, _ in upper)[0] if upper else None,
        )

    def foretold(self, row, papers, bound=BOUND, factor=FACTOR):
        """The first row and the steps of the paper, or None."""
        hours = self.window(row, papers, bound, factor)
        if None in hours or hours[0] <= hours[1]:
            return None
        lower, upper = [
            next(paper for hour, paper in found if hour == wanted)
            for wanted, found in zip(hours, self.parts(row, papers, bound, factor))
        ]
        return lower.first, lower.steps + upper.steps


class NotebookCase(unittest.TestCase):
    def answer(self, method, *arguments):
        """The reason of the error, or what was returned."""
        try:
            return method(*arguments)
        except NotebookError as error:
            return error.reason


class TakingTest(NotebookCase):
    HEADS = [head_of([at], hour=60 - at) for at in range(4)]
    WRONG = ((), (0,), (3, 1, 2), (2, 0), (5, 7), (6, 1, 2), (1, 2), (1, 2, 3, 4), (4, 9, 0, 5, 0, 6),
             (4, 9, 0, 5, 1), (4, 9, 1, 5, 1, 6))

    def test_a_new_notebook(self):
        notebook = Notebook(WIDE)
        self.assertIs(notebook.mixing, WIDE)
        self.assertIsNone(notebook.seen(self.HEADS[0]))
        self.assertEqual(window(notebook, self.HEADS[0], [Paper(self.HEADS[0], [])]), (None, None))

    def test_note_takes_beacons_alone(self):
        notebook = Notebook(WIDE)
        for row in (*self.WRONG, self.HEADS[0]):
            self.assertEqual(self.answer(notebook.note, row), NOT_A_BEACON)
            self.assertEqual(window(notebook, row, [Paper(row, [])]), (None, None))
        for row in ((1, 0, 0), (1, 9, 8), (1, GREAT, GREAT), (1, 9, 8)):
            self.assertIsNone(self.answer(notebook.note, row))
            self.assertEqual(window(notebook, row, [Paper(row, [])]), (row[1], None))
            self.assertIsNone(notebook.seen(row))

    def test_see_takes_heads_alone(self):
        notebook = Notebook(WIDE)
        for row in (*self.WRONG, (1, 9, 8)):
            for hour in (0, 70):
                self.assertEqual(self.answer(notebook.see, row, hour), NOT_A_HEAD)
                self.assertIsNone(notebook.seen(row))
        # The hours of what was refused do not count.
        self.assertIsNone(self.answer(notebook.see, self.HEADS[0], 1))
        self.assertEqual(notebook.seen(self.HEADS[0]), 1)

    def test_hours_do_not_fall(self):
        notebook = Notebook(WIDE)
        one, two, three, four = self.HEADS
        self.assertIsNone(self.answer(notebook.see, one, 50))
        self.assertEqual(self.answer(notebook.see, two, 49), HOUR)
        self.assertIsNone(notebook.seen(two))
        self.assertIsNone(self.answer(notebook.see, two, 50))
        self.assertEqual(self.answer(notebook.see, three, 0), HOUR)
        self.assertIsNone(self.answer(notebook.see, three, 52))
        self.assertEqual(self.answer(notebook.see, four, 51), HOUR)
        self.assertEqual(self.answer(notebook.see, one, 51), HOUR)
        self.assertEqual([notebook.seen(row) for row in self.HEADS], [50, 50, 52, None])

    def test_a_refused_hour_does_not_count(self):
        notebook = Notebook(WIDE)
        one, two, _, _ = self.HEADS
        notebook.see(one, 50)
        self.assertEqual(self.answer(notebook.see, two, 40), HOUR)
        self.assertEqual(self.answer(notebook.see, two, 45), HOUR)
        self.assertIsNone(self.answer(notebook.see, two, 50))

    def test_the_first_reason_counts(self):
        notebook = Notebook(WIDE)
        notebook.see(self.HEADS[0], 50)
        self.assertEqual(self.answer(notebook.see, (1, 9, 8), 49), NOT_A_HEAD)
        self.assertEqual(self.answer(notebook.see, (), 49), NOT_A_HEAD)

    def test_the_first_hour_of_a_head_counts(self):
        notebook = Notebook(WIDE)
        one, two, _, _ = self.HEADS
        for hour in (50, 50, 60, 70):
            self.assertIsNone(self.answer(notebook.see, one, hour))
            self.assertEqual(notebook.seen(one), 50)
        # The hour that was passed for it last is the one that counts for the next head.
        self.assertEqual(self.answer(notebook.see, two, 69), HOUR)
        self.assertIsNone(self.answer(notebook.see, two, 70))

    def test_hour_0(self):
        notebook = Notebook(WIDE)
        self.assertIsNone(self.answer(notebook.see, self.HEADS[0], 0))
        self.assertEqual(notebook.seen(self.HEADS[0]), 0)
        notebook.note(beacon(0, 5))
        paper = stamp(beacon(0, 5), 0, [])
        notebook.see(paper.steps[0][0], 0)
        self.assertEqual(window(notebook, beacon(0, 5), [paper, Paper(beacon(0, 5), [])]), (0, 0))

    def test_the_hour_of_the_head_itself_does_not_count(self):
        notebook = Notebook(WIDE)
        for row, hour in zip(self.HEADS, (3, 3, 99, 1000)):
            notebook.see(row, hour)
            self.assertEqual(notebook.seen(row), hour)

    def test_heads_are_told_apart_by_their_rows(self):
        one = head_of([70])
        for two in (head_of([70], hour=50 + PRIME), one[:1] + (9 + PRIME,) + one[2:]):
            self.assertEqual(told(one), told(two))
            notebook = Notebook(WIDE)
            notebook.see(one, 50)
            self.assertIsNone(notebook.seen(two))
            notebook.see(two, 60)
            self.assertEqual((notebook.seen(one), notebook.seen(two)), (50, 60))

    def test_two_notebooks_do_not_touch_one_another(self):
        one, two = Notebook(WIDE), Notebook(WIDE)
        one.see(self.HEADS[0], 50)
        one.note(beacon(3, 4))
        self.assertIsNone(two.seen(self.HEADS[0]))
        self.assertEqual(window(two, beacon(3, 4), [Paper(beacon(3, 4), [])]), (None, None))
        self.assertIsNone(self.answer(two.see, self.HEADS[1], 0))

    def test_by_chance(self):
        met = collections.Counter()
        rows = [*self.HEADS, *[(1, at, 5) for at in range(3)], *self.WRONG]
        for seed in range(100):
            chance = random.Random(seed)
            notebook, plain = Notebook(WIDE), PlainNotebook()
            for hour in range(30):
                row = chance.choice(rows)
                if chance.random() < 0.3:
                    found = self.answer(notebook.note, row)
                    self.assertEqual(found, plain.note(row))
                else:
                    shown = max(0, hour + chance.choice((-9, -1, 0, 0, 1)))
                    found = self.answer(notebook.see, row, shown)
                    self.assertEqual(found, plain.see(row, shown))
                met[found] += 1
                for known in rows:
                    self.assertEqual(notebook.seen(known), plain.seen(known))
                    papers = [Paper(known, [])]
                    self.assertEqual(window(notebook, known, papers), plain.window(known, papers))
        for found in (None, NOT_A_BEACON, NOT_A_HEAD, HOUR):
            self.assertGreater(met[found], 20)


class WindowTest(NotebookCase):
    """Beacons of the hours 10, 20 and 30, a document that cites them, and heads that hold it."""

    def setUp(self):
        self.beacons = [beacon(hour, 5) for hour in (10, 20, 30)]
        self.letter = cite(*self.beacons)
        self.lower = [Paper(row, [(self.letter, ("cite", index))])
                      for index, row in enumerate(self.beacons)]
        self.upper = [stamp(self.letter, at, [70, 71], hour=50 + at) for at in range(3)]
        self.heads = [paper.steps[0][0] for paper in self.upper]
        self.notebook = Notebook(WIDE)
        self.plain = PlainNotebook()

    def note(self, *rows):
        for row in rows:
            self.notebook.note(row)
            self.plain.note(row)

    def see(self, *sights):
        for row, hour in sights:
            self.notebook.see(row, hour)
            self.plain.see(row, hour)

    def check(self, expected, papers, row=None):
        """The window is the expected one, and also that of the second notebook."""
        row = self.letter if row is None else row
        shown = [(paper.first, list(paper.steps)) for paper in papers]
        listed = list(papers)
        found = window(self.notebook, row, papers)
        self.assertIs(type(found), tuple)
        self.assertEqual(found, expected)
        self.assertEqual(found, self.plain.window(row, papers))
        paper = foretold(self.notebook, row, papers)
        wanted = self.plain.foretold(row, papers)
        self.assertEqual(None if paper is None else (paper.first, paper.steps), wanted)
        self.assertEqual(papers, listed)
        self.assertEqual([(paper.first, paper.steps) for paper in papers], shown)
        return paper

    def test_no_papers(self):
        self.note(*self.beacons)
        self.see(*[(row, 60) for row in self.heads])
        self.check((None, None), [])

    def test_the_greatest_hour_of_a_noted_beacon(self):
        self.check((None, None), self.lower)
        self.note(self.beacons[1])
        for order in itertools.permutations(self.lower):
            self.check((20, None), list(order))
        self.note(self.beacons[0])
        for order in itertools.permutations(self.lower):
            self.check((20, None), list(order))
        self.note(self.beacons[2])
        for order in itertools.permutations(self.lower):
            self.check((30, None), list(order))
        self.check((20, None), self.lower[:2])
        self.check((10, None), self.lower[:1])

    def test_the_least_hour_of_a_seen_head(self):
        self.check((None, None), self.upper)
        self.see((self.heads[2], 40))
        for order in itertools.permutations(self.upper):
            self.check((None, 40), list(order))
        self.see((self.heads[0], 45), (self.heads[1], 50), (self.heads[2], 60))
        for order in itertools.permutations(self.upper):
            self.check((None, 40), list(order))
        self.check((None, 45), self.upper[:2])
        self.check((None, 50), self.upper[1:2])

    def test_both_parts(self):
        self.note(*self.beacons)
        self.see(*zip(self.heads, (40, 41, 42)))
        for many, more in itertools.product(range(4), range(4)):
            papers = self.lower[:many] + self.upper[more:]
            expected = ((None, 10, 20, 30)[many], (40, 41, 42, None)[more])
            self.check(expected, papers)
            self.check(expected, papers[::-1])

    def test_papers_without_steps(self):
        self.note(self.beacons[0])
        self.see((self.heads[0], 60))
        self.check((10, None), [Paper(self.beacons[0], [])], self.beacons[0])
        self.check((None, None), [Paper(self.beacons[1], [])], self.beacons[1])
        self.check((None, 60), [Paper(self.heads[0], [])], self.heads[0])
        self.check((None, None), [Paper(self.heads[1], [])], self.heads[1])
        self.check((None, None), [Paper(self.letter, [])])
        self.check((None, None), [Paper(self.beacons[0], []), Paper(self.heads[0], [])])

    def test_papers_that_begin_or_end_elsewhere(self):
        self.note(*self.beacons)
        self.see((self.heads[0], 60))
        long = Paper(self.beacons[0], self.lower[0].steps + self.upper[0].steps)
        self.assertIs(is_accepted(WIDE, long), True)
        self.check((None, None), [long])
        self.check((10, None), [long], self.heads[0])
        self.check((None, 60), [long], self.beacons[0])
        later = cite(self.letter)
        self.check((None, None), [Paper(self.letter, [(later, ("cite", 0))])])
        self.check((None, None), [Paper(self.letter, [(later, ("cite", 0))])], later)

    def test_papers_that_are_not_accepted_are_left_aside(self):
        self.note(*self.beacons)
        self.see(*zip(self.heads, (40, 41, 42)))
        wrong = [
            Paper(self.beacons[2], [(self.letter, ("cite", 1))]),
            Paper(self.beacons[2], [(self.letter, ("cite", 3))]),
            Paper(self.beacons[2], [((3, 1, 2), ("cite", 0)), (self.letter, ("cite", 2))]),
            Paper(self.letter, [(self.heads[0], ("entry", 1, self.upper[0].steps[0][1][2]))]),
            Paper(self.letter, [(self.heads[0], ("entry", 0, ()))]),
            Paper(self.letter, [(self.heads[0], ("cite", 0))]),
        ]
        self.check((None, None), wrong)
        self.check((20, 41), wrong + self.lower[:2] + self.upper[1:])
        self.check((20, 41), self.lower[:2] + self.upper[1:] + wrong)

    def test_papers_for_another_mixing_are_left_aside(self):
        self.notebook = Notebook(Mixing(BOUND, FACTOR + 1))
        self.notebook.note(self.beacons[0])
        self.notebook.see(self.heads[0], 60)
        papers = self.lower + self.upper
        self.assertEqual(window(self.notebook, self.letter, papers), (None, None))
        self.assertIsNone(foretold(self.notebook, self.letter, papers))

    def test_another_row_with_the_same_digest(self):
        self.note(self.beacons[0])
        self.see((self.heads[0], 60))
        twin = beacon(10, 5 + PRIME)
        self.check((None, None), [Paper(twin, self.lower[0].steps)])
        twin = self.heads[0][:3] + (self.heads[0][3] + PRIME,) + self.heads[0][4:]
        self.check((None, None), [Paper(self.letter, [(twin, self.upper[0].steps[0][1])])])
        twin = cite(*self.beacons, body=(0,))
        self.check((None, None), self.lower + self.upper, twin)

    def test_a_torn_window(self):
        self.note(*self.beacons)
        self.see(*zip(self.heads, (29, 30, 31)))
        for lower, upper in itertools.product(range(3), repeat=2):
            papers = [self.lower[lower], self.upper[upper]]
            for shown in (papers, papers[::-1]):
                found = self.check((10 * lower + 10, 29 + upper), shown)
                self.assertEqual(found is not None, (lower, upper) == (2, 0))
        # The hours 30 and 30 are not torn, 30 and 29 are.
        paper = self.check((30, 29), self.lower + self.upper)
        self.assertIs(type(paper), Paper)
        steps = self.lower[2].steps + self.upper[0].steps
        self.assertEqual((paper.first, paper.steps), (self.beacons[2], steps))
        self.assertIs(is_accepted(WIDE, paper), True)
        paper.steps.clear()
        self.assertEqual((len(self.lower[2].steps), len(self.upper[0].steps)), (1, 1))

    def test_one_part_alone_is_not_torn(self):
        self.note(beacon(30, 5))
        self.see((self.heads[0], 5))
        self.check((30, None), self.lower)
        self.check((None, 5), self.upper)
        self.check((None, None), [])

    def test_the_first_papers_of_the_list_that_give_the_parts(self):
        again = document([told(self.beacons[2]), told(self.beacons[2]), told(self.beacons[1])], [])
        self.note(*self.beacons, beacon(30, 6))
        first = stamp(again, 0, [70])
        second = stamp(again, 1, [70])
        later = stamp(again, 0, [71])
        heads = [paper.steps[0][0] for paper in (first, second, later)]
        self.see((heads[0], 8), (heads[1], 8), (heads[2], 9))
        low = Paper(self.beacons[1], [(again, ("cite", 2))])
        one = Paper(self.beacons[2], [(again, ("cite", 0))])
        two = Paper(self.beacons[2], [(again, ("cite", 1))])
        wrong = Paper(self.beacons[2], [(again, ("cite", 2))])
        for papers in itertools.permutations((low, one, two, wrong, first, second, later)):
            paper = self.check((30, 8), list(papers), again)
            lower = next(shown for shown in papers if shown in (one, two))
            upper = next(shown for shown in papers if shown in (first, second))
            self.assertEqual((paper.first, paper.steps), (lower.first, lower.steps + upper.steps))
            self.assertIs(is_accepted(WIDE, paper), True)

    def test_a_beacon_that_was_foretold(self):
        # The head holds the beacon itself, and was seen before the beacon's hour.
        paper = stamp(self.beacons[1], 0, [70])
        row = paper.steps[0][0]
        self.note(self.beacons[1])
        self.see((row, 19))
        papers = [Paper(self.beacons[1], []), paper, Paper(row, [])]
        found = self.check((20, 19), papers, self.beacons[1])
        self.assertEqual((found.first, found.steps), (self.beacons[1], paper.steps))
        found = self.check((20, 19), papers, row)
        self.assertEqual((found.first, found.steps), (self.beacons[1], paper.steps))

    def test_by_chance(self):
        met = collections.Counter()
        for seed in range(150):
            chance = random.Random(seed)
            self.setUp()
            self.note(*chance.sample(self.beacons, chance.randrange(4)))
            hours = sorted(chance.randrange(5, 45) for _ in range(3))
            seen = chance.sample(self.heads, chance.randrange(4))
            self.see(*zip(seen, hours))
            twisted = [Paper(paper.first, [(row, (place[0], place[1] + 1, *place[2:]))])
                       for paper in self.lower + self.upper for row, place in paper.steps]
            whole = [Paper(one.first, one.steps + two.steps) for one in self.lower for two in self.upper]
            ends = [Paper(row, []) for row in self.beacons + self.heads + [self.letter]]
            papers = chance.choices(self.lower + self.upper + twisted + whole + ends, k=14)
            for row in self.beacons + self.heads + [self.letter]:
                paper = self.check(self.plain.window(row, papers), papers, row)
                hours = window(self.notebook, row, papers)
                met[hours[0] is None, hours[1] is None, paper is None] += 1
                if paper is not None:
                    self.assertIs(is_accepted(WIDE, paper), True)
        for parts in ((True, True, True), (True, False, True), (False, True, True),
                      (False, False, True), (False, False, False)):
            self.assertGreater(met[parts], 15, parts)


if __name__ == "__main__":
    unittest.main()
