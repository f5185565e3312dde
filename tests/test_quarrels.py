import collections
import itertools
import unittest

from sealround.digests import Mixing, is_clash
from sealround.papers import Paper, is_accepted
from sealround.quarrels import evidence
from sealround.things import beacon, document, head
from tests.made_up import climbing_ways, other_places
from tests.plain import PRIME, plain_climb, plain_digest, plain_root
from tests.plain_checks import plain_differing_nodes, plain_evidence, plain_own_way
from tests.plain_papers import plain_sides
from tests.wide import BOUND, FACTOR, cite, head_of, told
from tests.worlds import World


class QuarrelCase(unittest.TestCase):
    def check(self, bound, factor, one, two):
        """Compares the evidence of two papers, pairs of a first row and steps; returns it."""
        mixing = Mixing(bound, factor)
        papers = [Paper(first, steps) for first, steps in (one, two)]
        for paper in papers:
            self.assertIs(is_accepted(mixing, paper), True)
        found = evidence(mixing, *papers)
        self.assertEqual(found, plain_evidence(bound, factor, one, two), (one, two))
        self.assertEqual([(paper.first, paper.steps) for paper in papers], [one, two])
        if found is not None:
            self.assertIs(type(found), tuple)
        if found is not None and found[0] == "clash":
            self.assertIs(is_clash(mixing, *found[1:]), True)
        return found


class ByHandTest(QuarrelCase):
    def told_of(self, one, two):
        return self.check(BOUND, FACTOR, one, two)

    def test_none(self):
        stone = beacon(3, 4)
        letter = cite(stone)
        for one, two in itertools.product(
            [(stone, []), (letter, []), (stone, [(letter, ("cite", 0))]), (beacon(8, 8), [])], repeat=2
        ):
            self.assertIsNone(self.told_of(one, two))

    def test_a_clash_of_rows(self):
        one, two = [beacon(3, 4 + many * PRIME) for many in range(2)]
        self.assertEqual(self.told_of((one, []), (two, [])), ("clash", one, two))
        self.assertEqual(self.told_of((two, []), (one, [])), ("clash", two, one))
        step = (cite(one), ("cite", 0))
        for steps, others in itertools.product(([], [step]), repeat=2):
            self.assertEqual(self.told_of((one, steps), (two, others)), ("clash", one, two))
            self.assertEqual(self.told_of((two, steps), (one, others)), ("clash", two, one))
            self.assertIsNone(self.told_of((one, steps), (one, others)))

    def test_a_clash_in_a_tree(self):
        stone = beacon(3, 4)
        entries = [70, told(stone), 71]
        row = head_of(entries)
        inner = plain_digest(BOUND, FACTOR, (3, 70, told(stone)))
        ways = [(70, 71), (70 + PRIME, 71), (70, 71 + PRIME), (70 + PRIME, 71 + PRIME)]
        papers = [(stone, [(row, ("entry", 1, way))]) for way in ways]
        low, high = [(3, 70 + many * PRIME, told(stone)) for many in range(2)]
        near, far = [(3, inner, 71 + many * PRIME) for many in range(2)]
        expected = {
            (0, 1): (low, high), (0, 2): (near, far), (0, 3): (near, far),
            (1, 2): (near, far), (1, 3): (near, far), (2, 3): (low, high),
        }
        for (at, to), (one, two) in expected.items():
            self.assertEqual(self.told_of(papers[at], papers[to]), ("clash", one, two))
            self.assertEqual(self.told_of(papers[to], papers[at]), ("clash", two, one))
        for paper in papers:
            self.assertIsNone(self.told_of(paper, paper))

    def test_entries_at_another_index_or_of_another_head_tell_nothing(self):
        stone, other = beacon(3, 4), beacon(3, 5)
        entries = [told(stone), told(other), told(stone)]
        row = head_of(entries)
        again = head_of(entries, hour=51)
        ways = [plain_own_way(BOUND, FACTOR, entries, index) for index in range(3)]
        firsts = [stone, other, stone]
        papers = [(first, [(row, ("entry", index, way))])
                  for index, (first, way) in enumerate(zip(firsts, ways))]
        for one, two in itertools.product(papers, repeat=2):
            self.assertIsNone(self.told_of(one, two))
        forked = (stone, [(again, ("entry", 0, (ways[0][0] + PRIME, ways[0][1])))])
        expected = ("fork", 9, 0, told(row), told(again))
        self.assertEqual(self.told_of(papers[0], forked), expected)

    def test_a_clash_of_rows_is_told_ahead_of_one_in_a_tree(self):
        stone, twin = beacon(3, 4), beacon(3, 4 + PRIME)
        row = head_of([told(stone), 71])
        one = (stone, [(row, ("entry", 0, (71,)))])
        two = (twin, [(row, ("entry", 0, (71 + PRIME,)))])
        self.assertEqual(self.told_of(one, two), ("clash", stone, twin))
        self.assertEqual(self.told_of(two, one), ("clash", twin, stone))

    def test_a_clash_in_a_tree_is_told_ahead_of_a_fork(self):
        stone = beacon(3, 4)
        row, other = head_of([told(stone), 71]), head_of([told(stone), 72])
        end, again = cite(row), cite(other)
        one = (stone, [(row, ("entry", 0, (71,))), (end, ("cite", 0))])
        two = (stone, [(row, ("entry", 0, (71 + PRIME,)))])
        three = (stone, [(other, ("entry", 0, (72,))), (again, ("cite", 0))])
        self.assertEqual(self.told_of(one, three), ("fork", 9, 0, told(row), told(other)))
        nodes = [(3, told(stone), 71 + many * PRIME) for many in range(2)]
        self.assertEqual(self.told_of(one, two), ("clash", *nodes))
        joint = document([told(end), told(row)], [])
        long = (stone, [*two[1], (joint, ("cite", 1))])
        self.assertEqual(self.told_of(one, long), ("clash", *nodes))
        third = head_of([told(joint)], hour=90)
        long = (stone, [*long[1], (third, ("entry", 0, ()))])
        self.assertEqual(self.told_of(one, long), ("clash", *nodes))

    def test_a_fork(self):
        rows = [head_of([70 + at], hour=50 + at) for at in range(3)]
        for one, two in itertools.permutations(rows, 2):
            expected = ("fork", 9, 0, told(one), told(two))
            self.assertEqual(self.told_of((one, []), (two, [])), expected)
        others = [(4, 8, *rows[0][2:]), head_of([70], number=1, backs=[7]), (2, 0), (4, 9, 1, 50, 1, 70, 8)]
        for other in others:
            self.assertIsNone(self.told_of((rows[0], []), (other, [])))
        expected = ("fork", 9, 1, told(others[1]), told(others[3]))
        self.assertEqual(self.told_of((others[1], []), (others[3], [])), expected)

    def test_a_fork_in_one_paper(self):
        row = head_of([70])
        letter = cite(row)
        later = head_of([told(letter)], hour=60)
        paper = (row, [(letter, ("cite", 0)), (later, ("entry", 0, ()))])
        expected = ("fork", 9, 0, told(row), told(later))
        self.assertEqual(self.told_of(paper, ((2, 0), [])), expected)
        self.assertEqual(self.told_of(((2, 0), []), paper), expected)
        self.assertEqual(self.told_of(paper, paper), expected)
        self.assertEqual(self.told_of((later, []), paper), ("fork", 9, 0, told(later), told(row)))

    def test_the_first_of_two_forks(self):
        heads = {}
        for past in range(2):
            zero = head_of([70 + past])
            heads[past] = [zero, head_of([70], number=1, hour=60, backs=[told(zero)])]
        papers = [(zero, [(one, ("back", 0))]) for zero, one in heads.values()]
        expected = ("fork", 9, 0, told(heads[0][0]), told(heads[1][0]))
        self.assertEqual(self.told_of(*papers), expected)
        # Round 1 stands ahead of round 0 in the paper named first.
        letter = cite(heads[0][1])
        turned = head(9, 0, 80, 1, told(letter), [])
        paper = (heads[0][1], [(letter, ("cite", 0)), (turned, ("entry", 0, ()))])
        expected = ("fork", 9, 1, told(heads[0][1]), told(heads[1][1]))
        self.assertEqual(self.told_of(paper, papers[1]), expected)
        expected = ("fork", 9, 0, told(heads[1][0]), told(turned))
        self.assertEqual(self.told_of(papers[1], paper), expected)


class SequenceCase(QuarrelCase):
    """Documents that cite the same small digests, which they have: any of them may follow any."""

    BOUND = 40
    FACTOR = 48271
    MANY = 6
    TWINS = 3

    def setUp(self):
        """The rows: the digest of the row with the number 10 * twin + digest is the latter."""
        self.rows = {}
        for body in itertools.count():
            row = document(list(range(self.MANY)), [body])
            mark = plain_digest(self.BOUND, self.FACTOR, row)
            number = next((number for number in range(mark, 10 * self.TWINS, 10)
                           if number not in self.rows), None)
            if mark < self.MANY and number is not None:
                self.rows[number] = row
                if len(self.rows) == self.MANY * self.TWINS:
                    return

    def paper(self, numbers):
        """The paper through these rows."""
        rows = [self.rows[number] for number in numbers]
        steps = [(row, ("cite", before % 10)) for before, row in zip(numbers, rows[1:])]
        return rows[0], steps

    def told_of(self, one, two):
        return self.check(self.BOUND, self.FACTOR, self.paper(one), self.paper(two))


class ClashOfRowsTest(SequenceCase):
    def test_the_earlier_row_counts_then_the_later_one(self):
        for one, two, earlier, later in (
            ([0], [10], 0, 10),
            ([0, 1], [10, 11], 0, 10),
            ([0, 1], [11, 10], 0, 10),
            ([0, 1, 11], [10], 0, 10),
            ([0], [1, 11, 10], 0, 10),
            ([2, 1, 0], [10, 21, 11], 1, 21),
            ([0, 20, 10], [3], 0, 20),
            ([0, 0, 20], [10], 0, 20),
            ([3], [0, 20, 10], 0, 20),
            ([3, 4], [5, 10, 4, 20, 0], 10, 20),
            ([3, 4], [3, 14, 13], 3, 13),
            ([4, 3], [3, 14, 13], 4, 14),
            ([1, 1, 0], [0, 1, 20], 0, 20),
        ):
            expected = ("clash", self.rows[earlier], self.rows[later])
            self.assertEqual(self.told_of(one, two), expected)

    def test_all_short_papers(self):
        self.MANY, self.TWINS = 2, 3
        self.setUp()
        numbers = list(self.rows)
        shown = [list(found) for many in (1, 2) for found in itertools.product(numbers, repeat=many)]
        longer = [list(found) for found in itertools.product(numbers, repeat=3)]
        met = collections.Counter()
        for one, two in itertools.product(shown, shown + longer):
            for papers in ((one, two), (two, one)):
                found = self.told_of(*papers)
                met[found and found[0]] += 1
        self.assertEqual(set(met), {None, "clash", "loop"})


class LoopTest(SequenceCase):
    """Loops without a clash: no two rows of one digest."""

    def test_twice_in_the_first_paper(self):
        for one, mark in (([0, 0], 0), ([0, 1, 0], 0), ([3, 4, 4, 3], 3), ([1, 2, 3, 2], 2),
                          ([1, 2, 3, 3, 2, 5], 2), ([5, 4, 3, 2, 1, 0, 1], 1), ([2, 2, 2], 2)):
            for two in ([0], [5], one, [1, 1], [4, 3], one[::-1]):
                self.assertEqual(self.told_of(one, two), ("loop", mark))

    def test_twice_in_the_second_paper(self):
        for two, mark in (([0, 0], 0), ([3, 4, 4, 3], 3), ([1, 2, 3, 3, 2], 2), ([0, 1, 0], 0)):
            for one in ([0], [5], [4, 3], [0, 1, 2, 3, 4, 5], [5, 4, 3, 2, 1, 0]):
                self.assertEqual(self.told_of(one, two), ("loop", mark))

    def test_turned_round(self):
        for one, two, mark in (
            ([0, 1], [1, 0], 0),
            ([1, 0], [0, 1], 1),
            ([0, 1, 2], [0, 2, 1], 1),
            ([0, 1, 2], [1, 2, 0], 0),
            ([0, 1, 2], [2, 0, 1], 0),
            ([5, 0, 1, 2], [0, 3, 5], 5),
            ([5, 0, 3, 2], [0, 2, 3, 4, 1], 3),
            ([0, 1, 2, 3, 4], [0, 1, 2, 4, 3], 3),
            ([4, 0, 5, 1], [1, 4], 4),
        ):
            self.assertEqual(self.told_of(one, two), ("loop", mark))

    def test_none(self):
        for one, two in (([0], [0]), ([0, 1, 2], [0, 1, 2]), ([0, 1, 2], [0, 2]), ([0, 2], [1]),
                         ([0, 1, 2], [3, 4, 5]), ([0, 3, 1], [0, 4, 1]), ([3, 0], [0, 4]),
                         ([0, 1], [1, 2])):
            self.assertIsNone(self.told_of(one, two))

    def test_all_short_papers(self):
        shown = [list(found) for many in range(1, 5) for found in itertools.product(range(3), repeat=many)]
        met = collections.Counter()
        for one, two in itertools.product(shown, shown[:39]):
            for papers in ((one, two), (two, one)):
                found = self.told_of(*papers)
                met[found and found[0]] += 1
        self.assertEqual(set(met), {None, "loop"})

    def test_a_fork_is_told_ahead_of_a_loop(self):
        heads = {}
        for hour in range(60, 400):
            row = head(9, 0, hour, 1, plain_digest(self.BOUND, self.FACTOR, self.rows[0]), [])
            mark = plain_digest(self.BOUND, self.FACTOR, row)
            if mark > 5:
                heads.setdefault(mark, row)
        one, two = list(heads.values())[:2]
        step = (one, ("entry", 0, ()))
        first, steps = self.paper([0, 1, 0])
        marks = [plain_digest(self.BOUND, self.FACTOR, row) for row in (one, two)]
        found = self.check(self.BOUND, self.FACTOR, (first, [*steps, step]), (two, []))
        self.assertEqual(found, ("fork", 9, 0, *marks))
        found = self.check(self.BOUND, self.FACTOR, (first, [*steps, step]), (one, []))
        self.assertEqual(found, ("loop", 0))


class OneHeadTest(QuarrelCase):
    """Papers of one step that show rows and ways at places of one head."""

    def shown(self, bound, factor, row, firsts):
        """All such papers, with the index and the pair (digest, way)."""
        found = []
        for index in range(row[4]):
            for held, first in firsts.items():
                for way in climbing_ways(bound, factor, row, index, held):
                    found.append((first, row, index, (held, way)))
        return found

    def check_pair(self, bound, factor, one, two):
        _, row, index, shown = one
        _, _, other_index, other_shown = two
        papers = [(start, [(row, ("entry", at, pair[1]))])
                  for start, _, at, pair in (one, two)]
        found = self.check(bound, factor, *papers)
        if index != other_index or shown == other_shown:
            self.assertIsNone(found)
            return "none"
        nodes = plain_differing_nodes(bound, factor, row[4], index, shown, other_shown)
        self.assertEqual(found, ("clash", *nodes))
        return "clash"

    def test_under_small_bounds(self):
        met = collections.Counter()
        for bound, factor, counts in ((3, 48271, (2, 3, 4)), (4, 5, (2, 3)), (2, 7, (5, 6))):
            for count, seed in itertools.product(counts, range(2)):
                entries = [(seed + at * at) % bound for at in range(count)]
                row = head(9, 0, 5, count, plain_root(bound, factor, entries), [])
                own = plain_digest(bound, factor, row)
                firsts = {}
                for value in range(60):
                    mark = plain_digest(bound, factor, beacon(7, value))
                    # A beacon with the digest of the head would be a clash of rows.
                    if mark != own:
                        firsts.setdefault(mark, beacon(7, value))
                shown = self.shown(bound, factor, row, firsts)
                for one, two in itertools.product(shown[::1 + len(shown) // 30], shown):
                    met[self.check_pair(bound, factor, one, two)] += 1
        self.assertGreater(met["none"], 500)
        self.assertGreater(met["clash"], 500)


class ForkedWorld(World):
    """A world whose services often make another head of a round that they have closed."""

    def head(self):
        service = self.chance.choice((1, 2))
        heads = self.heads[service]
        if heads and self.chance.random() < 0.5:
            cut = self.chance.randrange(len(heads))
            self.heads[service] = heads[:cut]
        return World.head(self)


class ChanceTest(QuarrelCase):
    def with_other_ways(self, world, first, steps):
        """The paper with other ways at some entries, under a small bound."""
        rows = [first] + [row for row, _ in steps]
        changed = []
        for before, (row, place) in zip(rows, steps):
            if place[0] == "entry" and world.bound < 50 and world.chance.random() < 0.5:
                for (word, index, way), _ in other_places(world, row, place[1]):
                    sides = plain_sides(row[4], index)
                    mark = world.digest(before)
                    if plain_climb(world.bound, world.factor, sides, mark, way)[1] == row[5]:
                        place = (word, index, way)
            changed.append((row, place))
        return first, changed

    def check_world(self, world, things, many, met):
        links = world.links_among(things)
        for _ in range(many):
            papers = [self.with_other_ways(world, *world.walk(links, world.chance.randrange(9)))
                      for _ in range(2)]
            for one, two in (papers, papers[::-1], papers[:1] * 2):
                found = self.check(world.bound, world.factor, one, two)
                kind = "none" if found is None else found[0]
                met[kind] += 1
                rows = [one[0], two[0]] + [row for row, _ in one[1] + two[1]]
                met[kind, "node"] += kind == "clash" and found[1] not in rows
                met[kind, "no steps"] += not one[1] or not two[1]
                met[kind, "same"] += one == two

    def distinct(self, world):
        """The first thing of each digest, so that no rows are a clash."""
        found = {}
        for row, entries in world.things:
            found.setdefault(world.digest(row), (row, entries))
        return list(found.values())

    def test_under_small_bounds(self):
        for bound, factor in ((5, 48271), (20, 7)):
            met = collections.Counter()
            for seed in range(6):
                world = ForkedWorld(bound, factor, seed, 25)
                self.check_world(world, world.things, 60, met)
            self.assertGreater(met["clash"], 100)

    def test_without_a_clash_of_rows(self):
        met = collections.Counter()
        for bound, factor in ((6, 5), (12, 48271), (40, 48271)):
            for seed in range(15):
                world = ForkedWorld(bound, factor, seed, 70)
                self.check_world(world, self.distinct(world), 40, met)
        for kind in ("clash", "fork", "loop", "none"):
            self.assertGreater(met[kind], 30, kind)
        self.assertEqual(met["clash"], met["clash", "node"])
        for kind in ("fork", "loop", "none"):
            self.assertGreater(met[kind, "no steps"], 10)
            self.assertGreater(met[kind, "same"], 10)

    def test_under_a_wide_bound(self):
        met = collections.Counter()
        for seed in range(6):
            world = ForkedWorld(BOUND, FACTOR, seed, 40)
            self.check_world(world, world.things, 60, met)
        self.assertEqual((met["clash"], met["loop"]), (0, 0))
        self.assertGreater(met["fork"], 20)
        self.assertGreater(met["none"], 20)


if __name__ == "__main__":
    unittest.main()
