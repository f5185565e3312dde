import collections
import itertools
import random
import unittest

from sealround.digests import Mixing
from sealround.errors import PaperError
from sealround.papers import Paper, check, is_accepted, joined, paper_row, rows_of
from sealround.things import beacon, document, head, renewal
from sealround.trees import root_of, way_of
from tests.plain import plain_back_rounds, plain_climb, plain_digest
from tests.plain_papers import plain_fault, plain_paper_row, plain_sides
from tests.wide import BOUND, FACTOR, WIDE, told
from tests.worlds import World

GREAT = 2 ** 70

NOT_A_THING = "not a thing"
NO_SUCH_PLACE = "no such place"
NOT_THIS_DIGEST = "not this digest"
ANOTHER_ROUND = "another round"
REASONS = (NOT_A_THING, NO_SUCH_PLACE, NOT_THIS_DIGEST, ANOTHER_ROUND)


# A paper that goes through each kind of thing and each kind of place.
STONE = beacon(3, 4)
LETTER = document([77, told(STONE)], [1, 2])
ENTRIES = [70, told(LETTER), 71]
WAY = way_of(WIDE, ENTRIES, 1)
ROUND_0 = head(9, 0, 50, 3, root_of(WIDE, ENTRIES), [])
ROUND_1 = head(9, 1, 51, 1, 5, [told(ROUND_0)])
ROUND_2 = head(9, 2, 60, 1, 6, [told(ROUND_1), told(ROUND_0)])
ANSWER = document([told(ROUND_2)], [])
STEPS = [
    (LETTER, ("cite", 1)),
    (ROUND_0, ("entry", 1, WAY)),
    (ROUND_1, ("back", 0)),
    (ROUND_2, ("back", 0)),
    (ANSWER, ("cite", 0)),
]


class PaperTest(unittest.TestCase):
    def test_fields(self):
        paper = Paper(STONE, STEPS)
        self.assertEqual(vars(paper), {"first": STONE, "steps": STEPS})
        paper = Paper(steps=[], first=(7,))
        self.assertEqual((paper.first, paper.steps), ((7,), []))

    def test_the_list_of_steps_is_its_own(self):
        steps = list(STEPS)
        paper = Paper(STONE, steps)
        steps.clear()
        self.assertEqual(paper.steps, STEPS)
        self.assertIs(is_accepted(WIDE, paper), True)
        steps = list(STEPS)
        one, two = Paper(STONE, steps), Paper(STONE, steps)
        one.steps.pop()
        self.assertEqual(steps, STEPS)
        self.assertEqual(two.steps, STEPS)


class CheckCase(unittest.TestCase):
    def check_paper(self, bound, factor, first, steps):
        """Compares check and is_accepted with the second computation; returns the fault."""
        mixing = Mixing(bound, factor)
        paper = Paper(first, steps)
        expected = plain_fault(bound, factor, first, steps)
        if expected is None:
            last = steps[-1][0] if steps else first
            digests = (plain_digest(bound, factor, first), plain_digest(bound, factor, last))
            found = check(mixing, paper)
            self.assertIs(type(found), tuple)
            self.assertEqual(found, digests)
        else:
            with self.assertRaises(PaperError) as caught:
                check(mixing, paper)
            error = caught.exception
            self.assertEqual((error.step, error.reason), expected, (first, steps))
        self.assertIs(is_accepted(mixing, paper), expected is None)
        self.assertEqual((paper.first, paper.steps), (first, steps))
        return expected


class CheckByHandTest(CheckCase):
    def refused(self, step, reason, first, steps):
        with self.assertRaises(PaperError) as caught:
            check(WIDE, Paper(first, steps))
        self.assertEqual((caught.exception.step, caught.exception.reason), (step, reason))
        self.assertIs(is_accepted(WIDE, Paper(first, steps)), False)

    def refused_at(self, step, reason, row, place):
        """The paper with another step there is refused with that reason."""
        self.refused(step, reason, STONE, STEPS[:step - 1] + [(row, place)] + STEPS[step:])

    def test_the_paper_and_its_parts_are_accepted(self):
        rows = [STONE] + [row for row, _ in STEPS]
        for low, high in itertools.combinations_with_replacement(range(6), 2):
            paper = Paper(rows[low], STEPS[low:high])
            self.assertEqual(check(WIDE, paper), (told(rows[low]), told(rows[high])))
            self.assertIs(is_accepted(WIDE, paper), True)

    def test_no_steps(self):
        for row in (STONE, LETTER, ROUND_0, ROUND_2, renewal(7), (2, 0), (1, 0, 0)):
            self.assertEqual(check(WIDE, Paper(row, [])), (told(row), told(row)))
            self.assertIs(is_accepted(WIDE, Paper(row, [])), True)

    def test_a_first_row_that_is_no_thing_is_step_0(self):
        for row in ((), (0,), (1, 2), (2, 1), (3, 1, 2), (4, 9, 1, 5, 1, 6), (5,), (5, 1, 1)):
            self.refused(0, NOT_A_THING, row, [])
            self.refused(0, NOT_A_THING, row, STEPS)
            self.refused(0, NOT_A_THING, row, [((), ("cite", 0))])

    def test_a_node_is_no_thing_even_if_it_climbs(self):
        node = (3, 70, told(LETTER))
        row = head(9, 0, 50, 2, plain_digest(BOUND, FACTOR, (3, told(node), 71)), [])
        self.refused(0, NOT_A_THING, node, [(row, ("entry", 0, (71,)))])

    def test_a_row_that_is_no_thing(self):
        for step in range(1, 6):
            row, place = STEPS[step - 1]
            for wrong in ((), (3, 1, 2), (7,) + row[1:], (1, 2, 3, 4), (5,), (2, 9, 8)):
                self.refused_at(step, NOT_A_THING, wrong, place)
        self.refused_at(3, NOT_A_THING, ROUND_1 + (0,), ("back", 0))
        self.refused_at(3, NOT_A_THING, ROUND_1[:-1], ("back", 0))
        self.refused_at(2, NOT_A_THING, head(9, 0, 50, 0, 5, []), ("entry", 0, ()))

    def test_no_such_place(self):
        for place in (("cite", 2), ("cite", GREAT), ("back", 0), ("back", 1), ("entry", 1, ())):
            self.refused_at(1, NO_SUCH_PLACE, LETTER, place)
        for place in (("cite", 0), ("back", 0), ("entry", 3, WAY), ("entry", GREAT, WAY)):
            self.refused_at(2, NO_SUCH_PLACE, ROUND_0, place)
        for place in (("cite", 0), ("back", 2), ("back", GREAT), ("entry", 1, ())):
            self.refused_at(4, NO_SUCH_PLACE, ROUND_2, place)
        for row in (STONE, renewal(told(ROUND_2))):
            for place in (("cite", 0), ("back", 0), ("entry", 0, ())):
                self.refused_at(5, NO_SUCH_PLACE, row, place)

    def test_not_this_digest(self):
        self.refused_at(1, NOT_THIS_DIGEST, LETTER, ("cite", 0))
        for place in (("entry", 0, WAY), ("entry", 2, WAY), ("entry", 1, ()), ("entry", 1, WAY + (0,)),
                      ("entry", 1, WAY[::-1]), ("entry", 1, (WAY[0], WAY[1] + 1))):
            self.refused_at(2, NOT_THIS_DIGEST, ROUND_0, place)
        self.refused_at(4, NOT_THIS_DIGEST, ROUND_2, ("back", 1))
        self.refused_at(4, NOT_THIS_DIGEST, ROUND_2, ("entry", 0, ()))
        self.refused_at(5, NOT_THIS_DIGEST, document([told(ROUND_1)], []), ("cite", 0))
        self.refused(1, NOT_THIS_DIGEST, beacon(3, 5), STEPS)

    def test_another_round(self):
        for before in (
            head(8, 0, 50, 3, 5, []),
            head(9, 0, 60, 3, 5, []),
            head(9, 0, 61, 3, 5, []),
            head(9, 1, 50, 3, 5, [0]),
            head(9, 2, 50, 3, 5, [0, 0]),
            STONE,
            LETTER,
            renewal(0),
            (2, 9, 0, 50, 3, 5, 0, 0, 0, 0, 0),
        ):
            for index in (0, 1):
                backs = [1, 2]
                backs[index] = told(before)
                step = (head(9, 2, 60, 1, 6, backs), ("back", index))
                if before == head(9, 1, 50, 3, 5, [0]) and index == 0:
                    self.assertIs(is_accepted(WIDE, Paper(before, [step])), True)
                else:
                    self.refused(1, ANOTHER_ROUND, before, [step])
        before = head(9, 0, 59, 3, 5, [])
        step = (head(9, 2, 60, 1, 6, [told(before), told(before)]), ("back", 1))
        self.assertIs(is_accepted(WIDE, Paper(before, [step])), True)
        self.refused(1, ANOTHER_ROUND, before, [(step[0], ("back", 0))])

    def test_the_first_step_counts_then_the_first_reason(self):
        nothing, nowhere = (3, 1, 2), ("cite", 9)
        self.refused(0, NOT_A_THING, (), [(nothing, nowhere)])
        self.refused(1, NOT_A_THING, STONE, [(nothing, nowhere), (nothing, nowhere)])
        self.refused(1, NO_SUCH_PLACE, STONE, [(LETTER, nowhere), (nothing, nowhere)])
        self.refused(1, NOT_THIS_DIGEST, STONE, [(LETTER, ("cite", 0)), (nothing, nowhere)])
        # The row before is no head of that round, but its digest is not held there either.
        self.refused(1, NOT_THIS_DIGEST, STONE, [(ROUND_1, ("back", 0))])
        self.refused(1, NOT_THIS_DIGEST, ROUND_1, [(ROUND_2, ("back", 1))])
        backwards = head(9, 1, 50, 1, 5, [told(ROUND_0)])
        steps = STEPS[:2] + [(backwards, ("back", 0)), (nothing, nowhere)]
        self.refused(3, ANOTHER_ROUND, STONE, steps)

    def test_a_step_left_out_or_doubled(self):
        # ROUND_2 holds both heads before it, so the one between may be left out.
        for step, reason in ((1, NOT_THIS_DIGEST), (2, NOT_THIS_DIGEST), (3, NOT_THIS_DIGEST),
                             (4, NOT_THIS_DIGEST)):
            self.refused(step, reason, STONE, STEPS[:step - 1] + STEPS[step:])
        short = STEPS[:2] + [(ROUND_2, ("back", 1))] + STEPS[4:]
        self.assertEqual(check(WIDE, Paper(STONE, short)), (told(STONE), told(ANSWER)))
        for step in range(1, 6):
            doubled = STEPS[:step] + STEPS[step - 1:]
            self.refused(step + 1, NOT_THIS_DIGEST, STONE, doubled)

    def test_other_mixings_do_not_accept(self):
        for mixing in (Mixing(BOUND, FACTOR + 1), Mixing(BOUND - 1, FACTOR)):
            self.assertIs(is_accepted(mixing, Paper(STONE, STEPS)), False)
            self.assertIs(is_accepted(mixing, Paper(STONE, [])), True)

    def test_great_numbers(self):
        shown = head(GREAT, 0, GREAT, GREAT, GREAT, [])
        backs = [GREAT + at for at in range(len(plain_back_rounds(GREAT)))]
        backs[70] = told(shown)
        row = head(GREAT, GREAT, GREAT + 1, 1, GREAT, backs)
        paper = Paper(shown, [(row, ("back", 70))])
        self.assertEqual(check(WIDE, paper), (told(shown), told(row)))
        self.refused(1, NOT_THIS_DIGEST, shown, [(row, ("back", 69))])
        self.refused(1, NO_SUCH_PLACE, shown, [(row, ("back", 71))])

    def test_a_long_paper(self):
        rows = [STONE]
        for at in range(3000):
            rows.append(document([told(rows[-1])], [at]))
        steps = [(row, ("cite", 0)) for row in rows[1:]]
        self.assertEqual(check(WIDE, Paper(STONE, steps)), (told(STONE), told(rows[-1])))
        steps[2000] = (rows[2001], ("cite", 1))
        self.refused(2001, NO_SUCH_PLACE, STONE, steps)


class ChangedPaperTest(CheckCase):
    def changed_row(self, chance, row, others):
        """The row replaced, or with one number changed, more or less."""
        how = chance.randrange(4)
        if how == 0 or not row:
            return chance.choice(others)
        at = chance.randrange(len(row))
        if how == 1:
            return row[:at] + (chance.choice((0, 1, row[at] + 1, row[at] + 2)),) + row[at + 1:]
        if how == 2:
            return row[:at] + (chance.randrange(9),) + row[at:]
        return row[:at] + row[at + 1:]

    def changed_place(self, chance, place):
        word, index, *way = place
        way = way[0] if way else ()
        how = chance.randrange(4)
        if how == 0:
            word = chance.choice(("cite", "back", "entry"))
        elif how == 1:
            index = chance.choice((0, 1, 2, index + 1, index + 2, GREAT))
        elif how == 2:
            way = chance.choice((way + (1,), way[1:], way[:-1], way[::-1]))
        else:
            way = tuple(number + chance.randrange(2) for number in way)
        return (word, index, way) if word == "entry" else (word, index)

    def changed(self, chance, first, steps, others):
        """The paper with one change."""
        steps = list(steps)
        how = chance.randrange(4)
        at = chance.randrange(len(steps) + 1)
        if how == 0 or not steps:
            if at == 0:
                return self.changed_row(chance, first, others), steps
            row, place = steps[at - 1]
            steps[at - 1] = (self.changed_row(chance, row, others), place)
            return first, steps
        at = max(0, at - 1)
        row, place = steps[at]
        if how == 1:
            del steps[at]
        elif how == 2:
            steps.insert(at, steps[at])
        else:
            steps[at] = (row, self.changed_place(chance, place))
        return first, steps

    def forged(self, world, first, steps):
        """The paper with one number of a head changed, and all digests behind it made to fit."""
        rows = rows_of(Paper(first, steps))
        heads = [at for at, row in enumerate(rows) if row[0] == 4]
        if not heads:
            return first, steps
        changed = world.chance.choice(heads)
        at = world.chance.choice((1, 2, 3, 3))
        number = max(0, rows[changed][at] + world.chance.choice((-1, 1, 1)))
        rows[changed] = rows[changed][:at] + (number,) + rows[changed][at + 1:]
        for step, (_, place) in enumerate(steps, start=1):
            rows[step] = self.fitted(world, rows[step - 1], rows[step], place)
        return rows[0], [(row, place) for row, (_, place) in zip(rows[1:], steps)]

    def fitted(self, world, before, row, place):
        """The row with the digest of the row before at its place."""
        if place[0] == "entry":
            sides = plain_sides(row[4], place[1])
            _, held = plain_climb(world.bound, world.factor, sides, world.digest(before), place[2])
            at = 5
        else:
            held = world.digest(before)
            at = place[1] + (2 if place[0] == "cite" else 6)
        return row[:at] + (held,) + row[at + 1:]

    def check_world(self, world, many):
        """How often each fault was met in papers of the world and in changed ones."""
        links = world.links()
        others = [row for row, _ in world.things] + [(), (3, 1, 2)]
        met = collections.Counter()
        for _ in range(many):
            first, steps = world.walk(links, world.chance.randrange(7))
            self.assertIsNone(self.check_paper(world.bound, world.factor, first, steps))
            met[len(steps)] += 1
            for _ in range(6):
                once = self.changed(world.chance, first, steps, others)
                met[self.check_paper(world.bound, world.factor, *once)] += 1
                twice = self.changed(world.chance, *once, others)
                met[self.check_paper(world.bound, world.factor, *twice)] += 1
                forged = self.forged(world, first, steps)
                met[self.check_paper(world.bound, world.factor, *forged)] += 1
        return met

    def check_met(self, met):
        """Papers of each length were accepted, and each reason was met at several steps."""
        for length in range(7):
            self.assertGreater(met[length], 0, length)
        self.assertGreater(met[None], 0)
        self.assertGreater(met[0, NOT_A_THING], 0)
        for step, reason in itertools.product(range(1, 4), REASONS):
            self.assertGreater(met[step, reason], 0, (step, reason))

    def test_under_a_wide_bound(self):
        met = collections.Counter()
        for seed in range(6):
            met += self.check_world(World(BOUND, FACTOR, seed, 40), 150)
        self.check_met(met)

    def test_under_small_bounds(self):
        for bound, factor in ((2, 3), (5, 48271), (30, 7)):
            met = collections.Counter()
            for seed in range(3):
                met += self.check_world(World(bound, factor, seed, 25), 100)
            self.check_met(met)

    def test_each_change_of_one_number(self):
        for step, (row, place) in enumerate(STEPS, start=1):
            for at, more in itertools.product(range(len(row)), (1, 2, BOUND)):
                wrong = row[:at] + (row[at] + more,) + row[at + 1:]
                steps = STEPS[:step - 1] + [(wrong, place)] + STEPS[step:]
                fault = self.check_paper(BOUND, FACTOR, STONE, steps)
                # Only the last row can be changed where the paper does not look.
                self.assertIn(fault is None, (False, step == 5))


class RowsTest(unittest.TestCase):
    def test_rows_in_order(self):
        rows = [STONE, LETTER, ROUND_0, ROUND_1, ROUND_2, ANSWER]
        self.assertEqual(rows_of(Paper(STONE, STEPS)), rows)
        self.assertEqual(rows_of(Paper(STONE, [])), [STONE])
        self.assertEqual(rows_of(Paper((), [((), ("cite", 0)), ((9,), ("back", 1))])), [(), (), (9,)])

    def test_a_row_that_stands_twice(self):
        paper = Paper(STONE, [(LETTER, ("cite", 1)), (STONE, ("cite", 0)), (LETTER, ("cite", 1))])
        self.assertEqual(rows_of(paper), [STONE, LETTER, STONE, LETTER])

    def test_the_list_belongs_to_the_caller(self):
        paper = Paper(STONE, STEPS)
        rows_of(paper).clear()
        self.assertEqual(len(rows_of(paper)), 6)
        self.assertEqual(paper.steps, STEPS)


class JoinedTest(unittest.TestCase):
    def test_every_parting(self):
        rows = [STONE] + [row for row, _ in STEPS]
        for low, middle, high in itertools.combinations_with_replacement(range(6), 3):
            one = Paper(rows[low], STEPS[low:middle])
            two = Paper(rows[middle], STEPS[middle:high])
            paper = joined(one, two)
            self.assertIs(type(paper), Paper)
            self.assertEqual((paper.first, paper.steps), (rows[low], STEPS[low:high]))
            self.assertEqual(check(WIDE, paper), (told(rows[low]), told(rows[high])))
            self.assertEqual(rows_of(paper), rows[low:high + 1])

    def test_the_papers_stay_as_they_were(self):
        one = Paper(STONE, STEPS[:2])
        two = Paper(ROUND_0, STEPS[2:])
        paper = joined(one, two)
        paper.steps.clear()
        self.assertEqual((one.first, one.steps), (STONE, STEPS[:2]))
        self.assertEqual((two.first, two.steps), (ROUND_0, STEPS[2:]))
        paper = joined(one, two)
        one.steps.clear()
        two.steps.clear()
        self.assertEqual((paper.first, paper.steps), (STONE, STEPS))


class PaperRowTest(unittest.TestCase):
    def test_by_hand(self):
        self.assertEqual(paper_row(Paper((1, 3, 4), [])), (3, 1, 3, 4, 0))
        self.assertEqual(paper_row(Paper((), [])), (0, 0))
        steps = [((2, 1, 8), ("cite", 0))]
        self.assertEqual(paper_row(Paper((5, 6), steps)), (2, 5, 6, 1, 3, 2, 1, 8, 0, 0))
        steps = [((2, 1, 8), ("cite", 7)), ((7,), ("back", 6)), ((), ("entry", 5, ()))]
        expected = (1, 9, 3) + (3, 2, 1, 8, 0, 7) + (1, 7, 1, 6) + (0, 2, 5, 0)
        self.assertEqual(paper_row(Paper((9,), steps)), expected)
        steps = [((7, 7), ("entry", 4, (30, 20)))]
        self.assertEqual(paper_row(Paper((9,), steps)), (1, 9, 1, 2, 7, 7, 2, 4, 2, 30, 20))
        self.assertIs(type(paper_row(Paper((9,), steps))), tuple)

    def test_the_paper_through_each_place(self):
        paper = Paper(STONE, STEPS)
        expected = (
            3, *STONE, 5,
            6, *LETTER, 0, 1,
            6, *ROUND_0, 2, 1, 2, *WAY,
            7, *ROUND_1, 1, 0,
            8, *ROUND_2, 1, 0,
            3, *ANSWER, 0, 0,
        )
        self.assertEqual(paper_row(paper), expected)
        self.assertEqual((paper.first, paper.steps), (STONE, STEPS))

    def test_second_computation(self):
        chance = random.Random(2)
        for _ in range(300):
            first, steps = self.any_paper(chance)
            self.assertEqual(paper_row(Paper(first, steps)), plain_paper_row(first, steps))

    def any_paper(self, chance):
        def numbers():
            sizes = [chance.choice((1, 3, 64, 400)) for _ in range(chance.randrange(6))]
            return tuple(chance.getrandbits(size) for size in sizes)

        steps = []
        for _ in range(chance.randrange(7)):
            index = chance.getrandbits(chance.choice((1, 3, 80)))
            place = chance.choice((("cite", index), ("back", index), ("entry", index, numbers())))
            steps.append((numbers(), place))
        return numbers(), steps

    def read_back(self, row):
        """The first row and the steps that the row of a paper tells."""
        numbers = iter(row)

        def some():
            many = next(numbers)
            return tuple(next(numbers) for _ in range(many))

        first = some()
        steps = []
        for _ in range(next(numbers)):
            shown = some()
            word = ("cite", "back", "entry")[next(numbers)]
            index = next(numbers)
            steps.append((shown, (word, index, some()) if word == "entry" else (word, index)))
        self.assertEqual(list(numbers), [])
        return first, steps

    def test_a_paper_can_be_read_back(self):
        chance = random.Random(3)
        for _ in range(300):
            first, steps = self.any_paper(chance)
            self.assertEqual(self.read_back(paper_row(Paper(first, steps))), (first, steps))

    def test_papers_that_differ_have_different_rows(self):
        rows = [(), (0,), (1,), (2,), (0, 0), (1, 0), (2, 0), (1, 1, 0)]
        places = [(word, index) for word in ("cite", "back") for index in range(3)]
        places += [("entry", index, way) for index in range(3) for way in rows[:7]]
        steps = list(itertools.product(rows, places))
        papers = [(first, []) for first in rows]
        papers += [(first, [step]) for first in rows for step in steps]
        few = [step for step in steps if len(step[0]) < 2 and step[1][1] < 2]
        papers += [(first, list(two)) for first in rows[:4] for two in itertools.product(few, repeat=2)]
        found = {paper_row(Paper(first, shown)) for first, shown in papers}
        self.assertGreater(len(papers), 10000)
        self.assertEqual(len(found), len(papers))


if __name__ == "__main__":
    unittest.main()
