import collections
import itertools
import unittest

from sealround.digests import Mixing, is_clash
from sealround.libraries import Library
from sealround.papers import Paper, is_accepted, rows_of
from sealround.things import beacon, document, head
from sealround.traces import trace
from tests.made_up import climbing_ways, made_up_document, paper_to
from tests.plain import PRIME, plain_digest, plain_root
from tests.plain_checks import plain_differing_nodes, plain_own_way, plain_trace
from tests.wide import BOUND, FACTOR, WIDE, head_of, told
from tests.worlds import World

KNOWN = ("known",)


def library_of(things, mixing=WIDE):
    """A library with those of the things that it takes, and these things."""
    library = Library(mixing)
    return library, [(row, entries) for row, entries in things if library.put(row, entries) is None]


def first_of_each_digest(world):
    """Those things of the world that a library takes, if they are put in as they stand."""
    found = {}
    for row, entries in world.things:
        found.setdefault(world.digest(row), (row, entries))
    return list(found.values())


# A paper through each kind of place, and all that it shows.
STONE = beacon(3, 4)
LETTER = document([77, told(STONE)], [1, 2])
ENTRIES = [70, told(LETTER), 71]
ROUND_0 = head_of(ENTRIES)
ROUND_1 = head_of([told(STONE)], number=1, hour=51, backs=[told(ROUND_0)])
WAY = plain_own_way(BOUND, FACTOR, ENTRIES, 1)
STEPS = [(LETTER, ("cite", 1)), (ROUND_0, ("entry", 1, WAY)), (ROUND_1, ("back", 0))]
THINGS = [(STONE, []), (LETTER, []), (ROUND_0, ENTRIES), (ROUND_1, [told(STONE)])]


class ByHandTest(unittest.TestCase):
    def traced(self, left_out, first, steps):
        """The trace in the library of the things without those that are left out."""
        library, _ = library_of([thing for thing in THINGS if thing[0] not in left_out])
        self.assertIs(is_accepted(WIDE, Paper(first, steps)), True)
        paper = Paper(first, steps)
        found = trace(library, paper)
        self.assertIs(type(found), tuple)
        self.assertEqual((paper.first, paper.steps), (first, steps))
        return found

    def test_known(self):
        for low, high in itertools.combinations_with_replacement(range(4), 2):
            first = ([STONE] + [row for row, _ in STEPS])[low]
            self.assertEqual(self.traced([], first, STEPS[low:high]), KNOWN)

    def test_no_steps(self):
        for row, _ in THINGS:
            others = [other for other, _ in THINGS if other != row]
            self.assertEqual(self.traced(others, row, []), KNOWN)

    def test_unknown_at_the_step_whose_digest_no_known_row_has(self):
        self.assertEqual(self.traced([STONE], STONE, STEPS), ("unknown", 1))
        self.assertEqual(self.traced([LETTER], STONE, STEPS), ("unknown", 2))
        self.assertEqual(self.traced([ROUND_0], STONE, STEPS), ("unknown", 3))
        self.assertEqual(self.traced([STONE, LETTER], STONE, STEPS), ("unknown", 2))
        self.assertEqual(self.traced([STONE, ROUND_0], STONE, STEPS), ("unknown", 3))
        self.assertEqual(self.traced([LETTER], LETTER, STEPS[1:]), ("unknown", 1))

    def test_a_clash_of_rows_at_each_kind_of_place(self):
        other = beacon(3, 4 + PRIME)
        self.assertEqual(self.traced([], other, STEPS), ("clash", STONE, other))
        self.assertEqual(self.traced([STONE], other, STEPS), ("unknown", 1))
        other = document([77, told(STONE)], [1 + PRIME, 2])
        self.assertEqual(self.traced([], other, STEPS[1:]), ("clash", LETTER, other))
        steps = [(other, ("cite", 1))] + STEPS[1:]
        # Behind the row that is another one the trace does not go on.
        self.assertEqual(self.traced([], STONE, steps), ("clash", LETTER, other))
        self.assertEqual(self.traced([], beacon(3, 4 + PRIME), steps), ("clash", LETTER, other))
        self.assertEqual(self.traced([STONE], STONE, steps), ("clash", LETTER, other))
        other = ROUND_0[:4] + (3 + PRIME,) + ROUND_0[5:]
        self.assertEqual(self.traced([], other, STEPS[2:]), ("clash", ROUND_0, other))
        self.assertEqual(self.traced([ROUND_0], other, STEPS[2:]), ("unknown", 1))

    def test_another_way_to_the_same_root(self):
        inner = plain_digest(BOUND, FACTOR, (3, 70, told(LETTER)))
        for way, nodes in (
            ((70 + PRIME, 71), ((3, 70, told(LETTER)), (3, 70 + PRIME, told(LETTER)))),
            ((70, 71 + PRIME), ((3, inner, 71), (3, inner, 71 + PRIME))),
            ((70 + PRIME, 71 + PRIME), ((3, inner, 71), (3, inner, 71 + PRIME))),
        ):
            steps = [STEPS[0], (ROUND_0, ("entry", 1, way)), STEPS[2]]
            # Whether the row before is known or not: the way is looked at first.
            for left_out in ([], [STONE], [LETTER], [STONE, LETTER]):
                self.assertEqual(self.traced(left_out, STONE, steps), ("clash", *nodes))
            self.assertEqual(self.traced([ROUND_0], STONE, steps), ("unknown", 3))

    def test_the_first_clash_going_back_counts(self):
        steps = [STEPS[0], (ROUND_0, ("entry", 1, (70 + PRIME, 71))), STEPS[2]]
        nodes = ((3, 70, told(LETTER)), (3, 70 + PRIME, told(LETTER)))
        self.assertEqual(self.traced([], beacon(3, 4 + PRIME), steps), ("clash", *nodes))
        changed = ROUND_0[:4] + (3 + PRIME,) + ROUND_0[5:]
        self.assertEqual(self.traced([], changed, [STEPS[2]]), ("clash", ROUND_0, changed))

    def test_the_library_stays_as_it_was(self):
        library, _ = library_of(THINGS[1:])
        entries, rows, gaps = library.entries_of(told(ROUND_0)), library.rows(), library.gaps()
        for _ in range(2):
            self.assertEqual(trace(library, Paper(STONE, STEPS)), ("unknown", 1))
            self.assertEqual(library.entries_of(told(ROUND_0)), entries)
            self.assertEqual((library.rows(), library.gaps()), (rows, gaps))

    def test_a_long_paper(self):
        rows = [STONE]
        for at in range(2000):
            rows.append(document([told(rows[-1])], [at]))
        steps = [(row, ("cite", 0)) for row in rows[1:]]
        library, _ = library_of([(row, []) for row in rows])
        self.assertEqual(trace(library, Paper(STONE, steps)), KNOWN)
        library, _ = library_of([(row, []) for row in rows if row != rows[700]])
        self.assertEqual(trace(library, Paper(STONE, steps)), ("unknown", 701))

    def test_great_numbers(self):
        great = 2 ** 200
        first = beacon(great, great)
        row = head(great, 0, great, 1, told(first), [])
        library, _ = library_of([(first, []), (row, [told(first)])])
        self.assertEqual(trace(library, Paper(first, [(row, ("entry", 0, ()))])), KNOWN)


class LibraryPathTest(unittest.TestCase):
    def check_paths(self, world, things):
        """Each path of the library is one of known things, and traced as known."""
        mixing = Mixing(world.bound, world.factor)
        library, taken = library_of(things, mixing)
        rows = [row for row, _ in taken]
        lengths = collections.Counter()
        for start, end in itertools.product(rows, repeat=2):
            paper = library.path(start, end)
            if paper is not None:
                shown = rows_of(paper)
                self.assertEqual((shown[0], shown[-1]), (start, end))
                self.assertIs(is_accepted(mixing, paper), True)
                self.assertLessEqual(set(shown), set(rows))
                self.assertEqual(trace(library, paper), KNOWN)
                lengths[len(paper.steps)] += 1
        for start, followers in world.links().items():
            for end, _ in followers:
                if start in rows and end in rows:
                    steps = library.path(start, end).steps
                    self.assertEqual(len(steps), 0 if start == end else 1)
                    lengths["link"] += 1
        return lengths

    def test_under_wide_and_small_bounds(self):
        for bound, factor, many in ((BOUND, FACTOR, 30), (40, 48271, 40), (6, 5, 30)):
            lengths = collections.Counter()
            for seed in range(6):
                world = World(bound, factor, seed, many)
                lengths += self.check_paths(world, world.things)
                lengths += self.check_paths(world, world.things[::-1][::2])
            for length in (0, 1, 2, 3, "link"):
                self.assertGreater(lengths[length], 5, (bound, length))


class OtherEntryTest(unittest.TestCase):
    """A known head with a few entries, and papers that show something else at one of its places."""

    def rows_with(self, bound, factor, digest):
        """Two beacons with this digest."""
        found = []
        for value in itertools.count():
            row = beacon(7, value)
            if plain_digest(bound, factor, row) == digest:
                found.append(row)
                if len(found) == 2:
                    return found

    def check_place(self, bound, factor, entries, row, index, met):
        """Every digest and way that climb to the root of the head at this index."""
        mixing = Mixing(bound, factor)
        ours = (entries[index], plain_own_way(bound, factor, entries, index))
        for held in range(bound):
            one, two = self.rows[held]
            empty, _ = library_of([(row, entries)], mixing)
            full, _ = library_of([(row, entries), (one, [])], mixing)
            own = plain_digest(bound, factor, row) == held
            for way in climbing_ways(bound, factor, row, index, held):
                nodes = plain_differing_nodes(bound, factor, len(entries), index, ours, (held, way))
                self.assertEqual(nodes is None, (held, way) == ours)
                for library, before in itertools.product((empty, full), (one, two)):
                    paper = Paper(before, [(row, ("entry", index, way))])
                    found = trace(library, paper)
                    if nodes is not None:
                        expected = ("clash", *nodes)
                    elif own:
                        expected = ("clash", row, before)
                    elif library is empty:
                        expected = ("unknown", 1)
                    else:
                        expected = KNOWN if before == one else ("clash", one, two)
                    self.assertEqual(found, expected)
                    met[expected[0], nodes is None] += 1

    def test_two_to_six_entries(self):
        for bound, factor, counts in ((2, 48271, range(2, 7)), (3, 5, range(2, 5)), (5, 7, (2, 3))):
            self.rows = [self.rows_with(bound, factor, digest) for digest in range(bound)]
            met = collections.Counter()
            for count in counts:
                lists = list(itertools.product(range(bound), repeat=count))
                for shown in lists[::1 + len(lists) // 20]:
                    entries = list(shown)
                    row = head(9, 0, 5, count, plain_root(bound, factor, entries), [])
                    for index in range(count):
                        self.check_place(bound, factor, entries, row, index, met)
            for kind, same in (("clash", False), ("clash", True), ("unknown", True), ("known", True)):
                self.assertGreater(met[kind, same], 10, (bound, kind, same))


class ChanceTest(unittest.TestCase):
    """Papers by chance that end with a known thing, against the second reckoning."""

    def check_found(self, library, paper, found):
        """What holds of each trace, whatever was shown."""
        rows = rows_of(paper)
        mixing = library.mixing
        known = library.rows()
        if found == KNOWN:
            self.assertLessEqual(set(rows), set(known))
        elif found[0] == "clash":
            self.assertEqual(len(found), 3)
            self.assertIs(is_clash(mixing, found[1], found[2]), True)
        else:
            word, step = found
            self.assertEqual(word, "unknown")
            self.assertIn(rows[step], known)
            self.assertNotIn(rows[step - 1], known)
            marks = [plain_digest(mixing.bound, mixing.factor, row) for row in rows[step - 1:step + 1]]
            self.assertIn((marks[1], marks[0]), library.gaps())
            self.assertIs(library.is_closed(), False)

    def check_world(self, world, taken, many, met):
        mixing = Mixing(world.bound, world.factor)
        library, known = library_of(taken, mixing)
        self.assertEqual(known, taken)
        shown = []
        for _ in range(many):
            first, steps = paper_to(world, known, world.chance.randrange(7))
            paper = Paper(first, steps)
            self.assertIs(is_accepted(mixing, paper), True)
            found = trace(library, paper)
            expected = plain_trace(world.bound, world.factor, known, first, steps)
            self.assertEqual(found, expected, (first, steps))
            self.check_found(library, paper, found)
            met[found[0]] += 1
            met["steps", len(steps)] += 1
            met["entry", found[0]] += any(place[0] == "entry" for _, place in steps)
            shown.append((paper, found))
        return library, shown

    def check_more(self, world, library, shown):
        """What was known stays known when more things are put in."""
        for row, entries in world.things[::-1]:
            library.put(row, entries)
        changed = 0
        for paper, found in shown:
            later = trace(library, paper)
            self.check_found(library, paper, later)
            if found[0] != "unknown":
                self.assertEqual(later, found)
            changed += later != found
        return changed

    def test_under_small_bounds(self):
        for bound, factor in ((4, 5), (7, 48271), (30, 7)):
            met = collections.Counter()
            for seed in range(12):
                world = World(bound, factor, seed, 30)
                taken = first_of_each_digest(world)[::2]
                library, shown = self.check_world(world, taken, 120, met)
                met["changed"] += self.check_more(world, library, shown)
            expected = ["known", "clash", "unknown", "changed", ("entry", "known"), ("entry", "clash")]
            for kind in expected + [("steps", many) for many in range(7)]:
                self.assertGreater(met[kind], 5, (bound, kind))

    def test_under_a_wide_bound(self):
        met = collections.Counter()
        for seed in range(8):
            world = World(BOUND, FACTOR, seed, 40)
            library, shown = self.check_world(world, world.things[::-1][::2], 120, met)
            met["changed"] += self.check_more(world, library, shown)
        self.assertEqual(met["clash"], 0)
        for kind in ["known", "unknown", "changed"] + [("steps", many) for many in range(4)]:
            self.assertGreater(met[kind], 5, kind)

    def test_closed_libraries_never_end_unknown(self):
        for bound, factor in ((3, 7), (11, 48271), (30, 7)):
            met = collections.Counter()
            for seed in range(6):
                world = World(bound, factor, seed, 25)
                taken = first_of_each_digest(world)
                there = [world.digest(row) for row, _ in taken]
                missing = [digest for digest in range(bound) if digest not in there]
                taken += [(made_up_document(world, digest), []) for digest in missing]
                library, _ = self.check_world(world, taken, 120, met)
                self.assertIs(library.is_closed(), True)
            self.assertEqual(met["unknown"], 0)
            self.assertGreater(met["clash"], 50)
            self.assertGreater(met["known"], 50)


if __name__ == "__main__":
    unittest.main()
