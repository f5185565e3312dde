import itertools
import unittest

from sealround.digests import Mixing, is_clash
from sealround.errors import ThingError
from sealround.libraries import Library
from sealround.things import beacon, document, head, renewal
from tests.plain import PRIME, plain_digest, plain_nodes, plain_root
from tests.plain_papers import plain_is_thing, plain_places
from tests.wide import BOUND, FACTOR, WIDE, head_of, told
from tests.worlds import World

GREAT = 2 ** 70


class PlainLibrary:
    """A second library: lists that are searched from their beginning."""

    def __init__(self, bound, factor):
        self.bound = bound
        self.factor = factor
        self.things = []

    def digest(self, row):
        return plain_digest(self.bound, self.factor, row)

    def find(self, digest):
        return next((thing for thing in self.things if self.digest(thing[0]) == digest), None)

    def put(self, row, entries):
        """What put returns, or the reason of its error."""
        if not plain_is_thing(row):
            return "not a thing"
        expected = row[4] if row[0] == 4 else 0
        if len(entries) != expected:
            return "other entries"
        if entries and plain_root(self.bound, self.factor, entries) != row[5]:
            return "other entries"
        known = self.find(self.digest(row))
        if known is None:
            self.things.append((row, list(entries)))
            return None
        if known[0] != row:
            return known[0], row
        if known[1] != entries:
            nodes = [plain_nodes(self.bound, self.factor, shown) for shown in (known[1], entries)]
            return next((one, two) for one, two in zip(*nodes, strict=True) if one != two)
        return None

    def gaps(self):
        found = []
        for row, entries in self.things:
            for _, held in plain_places(self.bound, self.factor, row, entries):
                if self.find(held) is None:
                    found.append((self.digest(row), held))
        return found


class LibraryCase(unittest.TestCase):
    def put(self, library, row, entries):
        """What put returns, or the reason of its error."""
        try:
            return library.put(row, entries)
        except ThingError as error:
            return error.reason

    def check_state(self, library, plain, digests=()):
        """The library knows just what the second one knows."""
        self.assertEqual(library.rows(), [row for row, _ in plain.things])
        for digest in {*digests, *[plain.digest(row) for row, _ in plain.things]}:
            row, entries = plain.find(digest) or (None, None)
            self.assertEqual(library.row_of(digest), row)
            self.assertEqual(library.entries_of(digest), entries if row and row[0] == 4 else None)
        self.assertEqual(library.gaps(), plain.gaps())
        self.assertIs(library.is_closed(), plain.gaps() == [])

    def check_puts(self, bound, factor, puts, digests=()):
        """Puts the things into both libraries, and compares them; returns what was told."""
        library, plain = Library(Mixing(bound, factor)), PlainLibrary(bound, factor)
        answers = []
        for row, entries in puts:
            shown = list(entries)
            expected = plain.put(row, entries)
            found = self.put(library, row, shown)
            self.assertEqual(found, expected, (row, entries))
            self.assertEqual(shown, entries)
            if type(found) is tuple:
                self.assertIs(is_clash(Mixing(bound, factor), *found), True)
            answers.append(found)
            self.check_state(library, plain, digests)
        return answers


class PutTest(LibraryCase):
    def test_an_empty_library(self):
        library = Library(WIDE)
        self.assertIs(library.mixing, WIDE)
        self.assertEqual(library.rows(), [])
        self.assertEqual(library.gaps(), [])
        self.assertIs(library.is_closed(), True)
        for digest in (0, 1, told((1, 0, 0)), GREAT):
            self.assertIsNone(library.row_of(digest))
            self.assertIsNone(library.entries_of(digest))

    def test_things_of_each_kind(self):
        stone = beacon(3, 4)
        letter = document([told(stone), 7], [8])
        entries = [told(letter), 7, told(letter)]
        things = [
            (stone, []),
            (letter, []),
            (document([], []), []),
            (head_of(entries), entries),
            (head_of([7]), [7]),
            (renewal(told(stone)), []),
        ]
        library = Library(WIDE)
        for at, (row, shown) in enumerate(things):
            self.assertIsNone(library.row_of(told(row)))
            self.assertIsNone(library.put(row, shown))
            self.assertEqual(library.row_of(told(row)), row)
            self.assertEqual(library.rows(), [known for known, _ in things[:at + 1]])
        for row, shown in things:
            self.assertIsNone(library.put(row, list(shown)))
            self.assertEqual(library.rows(), [known for known, _ in things])
            expected = shown if row[0] == 4 else None
            self.assertEqual(library.entries_of(told(row)), expected)
        self.check_puts(BOUND, FACTOR, things + things)

    def test_not_a_thing(self):
        for row in ((), (0,), (1, 2), (1, 2, 3, 4), (2,), (2, 1), (3, 1, 2), (5,), (5, 1, 2), (6, 1),
                    (4, 9, 1, 5, 1, 6), (4, 9, 0, 5, 0, 6), (4, 9, 0, 5, 1, 6, 7)):
            for entries in ([], [6], [6, 7]):
                self.assertEqual(self.check_puts(BOUND, FACTOR, [(row, entries)]), ["not a thing"])

    def test_other_entries_of_a_head(self):
        entries = [7, 8, 9]
        row = head_of(entries)
        wrong = [[], [7], [7, 8], [7, 8, 9, 9], [8, 7, 9], [7, 9, 8], [9, 8, 7], [7, 8, 10], [0, 0, 0],
                 [row[5]], [plain_root(BOUND, FACTOR, [7, 8]), 9], [7, 8, 9, 0]]
        for shown in wrong:
            self.assertEqual(self.check_puts(BOUND, FACTOR, [(row, shown)]), ["other entries"])
            # Nothing changes where the head is known, either.
            puts = [(row, entries), (row, shown), (row, entries)]
            self.assertEqual(self.check_puts(BOUND, FACTOR, puts), [None, "other entries", None])

    def test_a_count_that_does_not_fit_a_root_that_does(self):
        # Two entries of which one is a node's digest have the root of three: the count differs.
        entries = [7, 8, 9]
        root = plain_root(BOUND, FACTOR, entries)
        short = [plain_root(BOUND, FACTOR, [7, 8]), 9]
        self.assertEqual(plain_root(BOUND, FACTOR, short), root)
        for count, shown in ((2, entries), (3, short), (1, entries), (1, short), (GREAT, entries)):
            row = head(9, 0, 5, count, root, [])
            self.assertEqual(self.check_puts(BOUND, FACTOR, [(row, shown)]), ["other entries"])
        for shown in (entries, short, [root]):
            row = head(9, 0, 5, len(shown), root, [])
            self.assertEqual(self.check_puts(BOUND, FACTOR, [(row, shown)]), [None])

    def test_other_things_come_without_entries(self):
        for row in ((1, 3, 4), (2, 0), (2, 1, 7), (2, 2, 7, 8, 9), (5, 7)):
            for entries in ([0], [7], [7, 8]):
                puts = [(row, entries), (row, []), (row, entries), (row, [])]
                answers = ["other entries", None, "other entries", None]
                self.assertEqual(self.check_puts(BOUND, FACTOR, puts), answers)

    def test_the_error_is_told_ahead_of_the_clash(self):
        # Both beacons have one digest; the second one comes with entries.
        puts = [((1, 3, 4), []), ((1, 3, 4 + PRIME), [7]), ((1, 3, 4 + PRIME), [])]
        answers = [None, "other entries", ((1, 3, 4), (1, 3, 4 + PRIME))]
        self.assertEqual(self.check_puts(BOUND, FACTOR, puts), answers)
        one, two = head_of([7, 8]), head_of([7, 8], hour=50 + PRIME)
        puts = [(one, [7, 8]), (two, [7]), (two, [8, 7]), (two, [7, 8])]
        answers = [None, "other entries", "other entries", (one, two)]
        self.assertEqual(self.check_puts(BOUND, FACTOR, puts), answers)

    def test_a_different_row_with_the_same_digest(self):
        rows = [beacon(hour, value) for hour in range(4) for value in range(6)]
        rows += [(2, 0), (2, 1, 3), (2, 0, 3), (5, 1), (5, 2), (2, 2, 0, 1)]
        for bound, factor in ((2, 3), (5, 7), (11, 48271)):
            for puts in (rows, rows[::-1], rows * 2):
                answers = self.check_puts(bound, factor, [(row, []) for row in puts], range(bound))
                self.assertLessEqual(answers.count(None), 2 * bound)
                self.assertGreater(len([found for found in answers if found]), 5)

    def test_heads_with_the_digest_of_other_things(self):
        for bound, factor in ((2, 3), (3, 7)):
            puts = []
            for hour, entries in itertools.product(range(3), itertools.product(range(2), repeat=2)):
                root = plain_root(bound, factor, entries)
                puts += [(head(9, 0, hour, 2, root, []), list(entries)), (beacon(hour, root), [])]
            self.check_puts(bound, factor, puts, range(bound))
            self.check_puts(bound, factor, puts[::-1], range(bound))

    def test_a_head_that_comes_again_with_other_entries(self):
        clashes = 0
        for bound, factor, counts in ((2, 3, (1, 2, 3, 4, 5)), (3, 5, (2, 3)), (7, 48271, (2,))):
            for count in counts:
                lists = [list(shown) for shown in itertools.product(range(bound), repeat=count)]
                for one, two in itertools.product(lists, repeat=2):
                    root = plain_root(bound, factor, one)
                    row = head(9, 0, 5, count, root, [])
                    answers = self.check_puts(bound, factor, [(row, one), (row, two), (row, one)])
                    self.assertEqual(answers[0::2], [None, None])
                    clashes += type(answers[1]) is tuple
                    if one == two:
                        self.assertIsNone(answers[1])
        self.assertGreater(clashes, 500)

    def test_the_first_nodes_that_differ_by_hand(self):
        one = [10, 11, 12, 13, 14, 15, 16]
        two = [10, 11 + PRIME, 12, 13, 14, 15, 16 + PRIME]
        row = head_of(one)
        library = Library(WIDE)
        self.assertIsNone(library.put(row, one))
        self.assertEqual(library.put(row, two), ((3, 10, 11), (3, 10, 11 + PRIME)))
        self.assertEqual(library.entries_of(told(row)), one)
        other = Library(WIDE)
        self.assertIsNone(other.put(row, two))
        self.assertEqual(other.put(row, one), ((3, 10, 11 + PRIME), (3, 10, 11)))
        self.assertEqual(other.entries_of(told(row)), two)

    def test_a_clash_of_rows_by_hand(self):
        library = Library(WIDE)
        one, two = (1, 3, 4), (1, 3 + PRIME, 4)
        self.assertIsNone(library.put(one, []))
        self.assertEqual(library.put(two, []), (one, two))
        self.assertEqual(library.rows(), [one])
        self.assertEqual(library.row_of(told(two)), one)
        other = Library(WIDE)
        self.assertIsNone(other.put(two, []))
        self.assertEqual(other.put(one, []), (two, one))
        self.assertEqual(other.rows(), [two])

    def test_worlds(self):
        for bound, factor in ((BOUND, FACTOR), (40, 48271), (4, 3)):
            for seed in range(4):
                world = World(bound, factor, seed, 30)
                things = world.things + world.things[::3]
                self.check_puts(bound, factor, things)

    def test_great_numbers(self):
        row = head(GREAT, 0, GREAT, 1, GREAT, [])
        library = Library(WIDE)
        self.assertIsNone(library.put(row, [GREAT]))
        self.assertEqual(library.entries_of(told(row)), [GREAT])
        self.assertEqual(library.gaps(), [(told(row), GREAT)])
        backs = list(range(71))
        row = head(GREAT, GREAT, GREAT, 1, 7, backs)
        self.assertIsNone(library.put(row, [7]))
        self.assertEqual(library.gaps()[1:], [(told(row), held) for held in backs + [7]])


class OwnListsTest(unittest.TestCase):
    def setUp(self):
        self.entries = [7, 8, 7]
        self.row = head_of(self.entries)
        self.library = Library(WIDE)
        self.library.put(self.row, self.entries)
        self.library.put((1, 3, 4), [])

    def check_same(self):
        self.assertEqual(self.library.rows(), [self.row, (1, 3, 4)])
        self.assertEqual(self.library.entries_of(told(self.row)), [7, 8, 7])
        self.assertEqual(self.library.gaps(), [(told(self.row), held) for held in (7, 8, 7)])
        self.assertIsNone(self.library.put(self.row, [7, 8, 7]))

    def test_the_list_that_was_handed_in(self):
        self.entries.append(9)
        self.check_same()
        self.entries.clear()
        self.check_same()

    def test_the_list_that_was_handed_in_again(self):
        again = [7, 8, 7]
        self.library.put(self.row, again)
        again[0] = 9
        self.check_same()

    def test_lists_that_were_handed_out(self):
        self.library.rows().clear()
        self.library.entries_of(told(self.row)).pop()
        self.library.gaps().append((1, 2))
        self.check_same()

    def test_a_path_that_was_handed_out(self):
        letter = document([told((1, 3, 4))], [])
        self.library.put(letter, [])
        self.library.path((1, 3, 4), letter).steps.clear()
        self.assertEqual(self.library.path((1, 3, 4), letter).steps, [(letter, ("cite", 0))])

    def test_an_empty_list_handed_in_with_another_thing(self):
        shown = []
        self.library.put((2, 0), shown)
        shown.append(7)
        self.assertIsNone(self.library.entries_of(told((2, 0))))
        self.assertIsNone(self.library.put((2, 0), []))

    def test_two_libraries_do_not_touch_one_another(self):
        other = Library(WIDE)
        self.assertEqual((other.rows(), other.gaps()), ([], []))
        self.assertIsNone(other.put((1, 3, 5), []))
        self.assertIsNone(other.put(document([7], []), []))
        self.check_same()
        self.assertEqual(other.rows(), [(1, 3, 5), (2, 1, 7)])
        self.assertIsNone(other.entries_of(told(self.row)))


class GapTest(LibraryCase):
    def test_cites_by_their_index(self):
        stone = beacon(3, 4)
        letter = document([80, told(stone), 70, 80], [60])
        library = Library(WIDE)
        library.put(letter, [])
        mark = told(letter)
        expected = [(mark, 80), (mark, told(stone)), (mark, 70), (mark, 80)]
        self.assertEqual(library.gaps(), expected)
        self.assertIs(library.is_closed(), False)
        library.put(stone, [])
        self.assertEqual(library.gaps(), [(mark, 80), (mark, 70), (mark, 80)])

    def test_back_links_come_ahead_of_entries(self):
        entries = [52, 91, 51, 52]
        row = head_of(entries, number=2, backs=[92, 91])
        library = Library(WIDE)
        library.put(row, entries)
        self.assertEqual(library.gaps(), [(told(row), held) for held in (92, 91, 52, 91, 51, 52)])

    def test_in_the_order_in_which_the_things_were_put_in(self):
        rows = [document([number], []) for number in (9, 3, 7, 1, 8)]
        for order in itertools.permutations(rows):
            library = Library(WIDE)
            for row in order:
                library.put(row, [])
            self.assertEqual(library.gaps(), [(told(row), row[2]) for row in order])
            library.put(order[3], [])
            self.assertEqual(library.gaps(), [(told(row), row[2]) for row in order])

    def test_beacons_and_renewals_have_no_gaps(self):
        library = Library(WIDE)
        for row in (beacon(3, 4), renewal(7), renewal(told((2, 0))), document([], [7, 8])):
            library.put(row, [])
            self.assertEqual(library.gaps(), [])
            self.assertIs(library.is_closed(), True)

    def test_a_thing_that_fills_a_gap_takes_it_away(self):
        stone = beacon(3, 4)
        letter = document([told(stone), told(stone)], [])
        entries = [told(stone), told(letter)]
        row = head_of(entries)
        library = Library(WIDE)
        library.put(row, entries)
        self.assertEqual(library.gaps(), [(told(row), told(stone)), (told(row), told(letter))])
        library.put(letter, [])
        expected = [(told(row), told(stone)), (told(letter), told(stone)), (told(letter), told(stone))]
        self.assertEqual(library.gaps(), expected)
        self.assertIs(library.is_closed(), False)
        library.put(stone, [])
        self.assertEqual(library.gaps(), [])
        self.assertIs(library.is_closed(), True)

    def test_a_thing_that_is_refused_fills_none(self):
        stone = beacon(3, 4)
        letter = document([told(stone)], [])
        library = Library(WIDE)
        library.put(letter, [])
        with self.assertRaises(ThingError):
            library.put(stone, [7])
        self.assertEqual(library.gaps(), [(told(letter), told(stone))])

    def test_any_row_with_the_digest_fills_a_gap(self):
        # Under a small bound the digest may have been that of another row; a back link that
        # goes to no head of that round is no link, but it is no gap either.
        library = Library(Mixing(2, 3))
        plain = PlainLibrary(2, 3)
        zero, one = [next(beacon(0, value) for value in range(9)
                          if plain.digest(beacon(0, value)) == digest) for digest in (0, 1)]
        row = next(row for hour in range(9) for row in [head(9, 1, hour, 1, 1, [0])]
                   if plain.digest(row) == 1)
        self.assertIsNone(library.put(row, [1]))
        self.assertEqual(library.gaps(), [(1, 0)])
        self.assertEqual(library.put(one, []), (row, one))
        self.assertIsNone(library.put(zero, []))
        self.assertIs(library.is_closed(), True)
        self.assertIsNone(library.path(zero, row))

    def test_a_thing_that_holds_its_own_digest_has_no_gap_there(self):
        for value in range(20):
            row = document([plain_digest(3, 7, (2, 1, 0, value))], [value])
            digest = plain_digest(3, 7, row)
            library = Library(Mixing(3, 7))
            library.put(row, [])
            expected = [] if row[2] == digest else [(digest, row[2])]
            self.assertEqual(library.gaps(), expected)


if __name__ == "__main__":
    unittest.main()
