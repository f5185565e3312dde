import itertools
import random
import unittest

from sealround.digests import Mixing, digest, is_clash
from sealround.trees import climb, clash_of_entries, clash_of_ways, root_of, turns, way_of
from tests.plain import plain_climb, plain_digest, plain_nodes, plain_root, plain_way

BOUND = 2 ** 64
FACTOR = 1234567
WIDE = Mixing(BOUND, FACTOR)


def pair(left, right):
    return plain_digest(BOUND, FACTOR, (3, left, right))


class RootTest(unittest.TestCase):
    def test_one_to_nine_entries_by_hand(self):
        a, b, c, d, e, f, g, h, i = entries = [30, 41, 52, 63, 74, 85, 96, 107, 118]
        four = pair(pair(a, b), pair(c, d))
        eight = pair(four, pair(pair(e, f), pair(g, h)))
        expected = [
            a,
            pair(a, b),
            pair(pair(a, b), c),
            four,
            pair(four, e),
            pair(four, pair(e, f)),
            pair(four, pair(pair(e, f), g)),
            eight,
            pair(eight, i),
        ]
        for count, root in enumerate(expected, start=1):
            with self.subTest(count=count):
                self.assertEqual(root_of(WIDE, entries[:count]), root)

    def test_one_entry_is_its_own_root_whatever_the_bound(self):
        self.assertEqual(root_of(Mixing(2, 3), [2 ** 70]), 2 ** 70)

    def test_more_entries(self):
        chance = random.Random(2)
        for count in [*range(10, 71), 127, 128, 129, 1000]:
            entries = [chance.getrandbits(64) for _ in range(count)]
            with self.subTest(count=count):
                self.assertEqual(root_of(WIDE, entries), plain_root(BOUND, FACTOR, entries))

    def test_equal_entries(self):
        for count in range(2, 20):
            for entries in ([7] * count, [0] * count, ([7, 7, 8] * count)[:count]):
                with self.subTest(entries=entries):
                    self.assertEqual(root_of(WIDE, entries), plain_root(BOUND, FACTOR, entries))

    def test_small_bounds(self):
        for bound, factor in ((2, 2), (3, 5), (10, 48271)):
            for count in range(1, 7):
                for entries in itertools.product(range(2), repeat=count):
                    found = root_of(Mixing(bound, factor), list(entries))
                    self.assertEqual(found, plain_root(bound, factor, entries))

    def test_the_order_of_the_entries_counts(self):
        self.assertNotEqual(root_of(WIDE, [1, 2]), root_of(WIDE, [2, 1]))
        self.assertNotEqual(root_of(WIDE, [1, 2, 3]), root_of(WIDE, [3, 1, 2]))

    def test_the_list_stays_as_it_was(self):
        for count in range(1, 10):
            entries = list(range(count))
            root_of(WIDE, entries)
            self.assertEqual(entries, list(range(count)))

    def test_no_entries_raise_no_error(self):
        self.assertIsNone(root_of(WIDE, []))


class WayTest(unittest.TestCase):
    def test_ways_by_hand(self):
        a, b, c, d, e, f, g = entries = [30, 41, 52, 63, 74, 85, 96]
        four = pair(pair(a, b), pair(c, d))
        expected = [
            (b, pair(c, d), pair(pair(e, f), g)),
            (a, pair(c, d), pair(pair(e, f), g)),
            (d, pair(a, b), pair(pair(e, f), g)),
            (c, pair(a, b), pair(pair(e, f), g)),
            (f, g, four),
            (e, g, four),
            (pair(e, f), four),
        ]
        self.assertEqual([way_of(WIDE, entries, index) for index in range(7)], expected)

    def test_few_entries_by_hand(self):
        self.assertEqual(way_of(WIDE, [30], 0), ())
        self.assertEqual(way_of(WIDE, [30, 41], 0), (41,))
        self.assertEqual(way_of(WIDE, [30, 41], 1), (30,))
        self.assertEqual(way_of(WIDE, [30, 41, 52], 2), (pair(30, 41),))
        self.assertEqual(way_of(WIDE, [30, 41, 52], 0), (41, 52))

    def check(self, bound, factor, entries):
        before = list(entries)
        for index in range(len(entries)):
            with self.subTest(bound=bound, count=len(entries), index=index):
                way = way_of(Mixing(bound, factor), entries, index)
                expected = plain_way(bound, factor, entries, index)
                self.assertIs(type(way), tuple)
                self.assertEqual(way, tuple(beside for _, beside in expected))
                self.assertEqual(turns(len(entries), index), [second for second, _ in expected])
        self.assertEqual(entries, before)

    def test_every_index(self):
        chance = random.Random(3)
        for count in [*range(1, 36), 64, 65]:
            self.check(BOUND, FACTOR, [chance.getrandbits(64) for _ in range(count)])

    def test_equal_entries(self):
        for count in range(1, 18):
            self.check(BOUND, FACTOR, [7] * count)
            self.check(2, 3, [1] * count)


class TurnsTest(unittest.TestCase):
    def descend(self, low, high, index):
        """The turns from the entry up, by parting the range from low to high."""
        if high - low == 1:
            return []
        middle = 1
        while middle * 2 < high - low:
            middle *= 2
        if index < low + middle:
            return self.descend(low, low + middle, index) + [False]
        return self.descend(low + middle, high, index) + [True]

    def test_by_hand(self):
        self.assertEqual(turns(1, 0), [])
        self.assertEqual(turns(2, 0), [False])
        self.assertEqual(turns(2, 1), [True])
        self.assertEqual(turns(3, 1), [True, False])
        self.assertEqual(turns(3, 2), [True])
        self.assertEqual(turns(5, 4), [True])
        self.assertEqual(turns(6, 4), [False, True])
        self.assertEqual(turns(7, 5), [True, False, True])
        self.assertEqual(turns(7, 6), [True, True])
        self.assertEqual(turns(8, 5), [True, False, True])

    def test_every_index_of_small_counts(self):
        for count in range(1, 70):
            for index in range(count):
                found = turns(count, index)
                self.assertIs(type(found), list)
                self.assertTrue(all(type(second) is bool for second in found))
                self.assertEqual(found, self.descend(0, count, index), (count, index))

    def test_great_counts(self):
        great = 2 ** 40
        for count in (great - 1, great, great + 1, great + 2 ** 20 + 5):
            for index in (0, 1, 2 ** 20, great // 2 - 1, great // 2, great - 2, count - 1):
                with self.subTest(count=count, index=index):
                    self.assertEqual(turns(count, index), self.descend(0, count, index))

    def test_great_counts_by_hand(self):
        great = 2 ** 40
        self.assertEqual(turns(great, 0), [False] * 40)
        self.assertEqual(turns(great, great - 1), [True] * 40)
        self.assertEqual(turns(great + 1, great), [True])
        self.assertEqual(turns(great + 1, 1), [True] + [False] * 40)

    def test_the_list_belongs_to_the_caller(self):
        turns(3, 1).append(True)
        self.assertEqual(turns(3, 1), [True, False])


class ClimbTest(unittest.TestCase):
    def test_by_hand(self):
        self.assertEqual(climb(WIDE, 1, 0, 30, ()), 30)
        self.assertEqual(climb(WIDE, 2, 0, 30, (41,)), pair(30, 41))
        self.assertEqual(climb(WIDE, 2, 1, 30, (41,)), pair(41, 30))
        self.assertEqual(climb(WIDE, 3, 0, 30, (41, 52)), pair(pair(30, 41), 52))
        self.assertEqual(climb(WIDE, 3, 1, 30, (41, 52)), pair(pair(41, 30), 52))
        self.assertEqual(climb(WIDE, 3, 2, 30, (41,)), pair(41, 30))

    def test_each_entry_climbs_to_the_root(self):
        chance = random.Random(4)
        for bound, factor in ((2, 3), (5, 7), (BOUND, FACTOR)):
            for count in [*range(1, 34), 100]:
                entries = [chance.randrange(bound) for _ in range(count)]
                mixing = Mixing(bound, factor)
                root = plain_root(bound, factor, entries)
                for index, entry in enumerate(entries):
                    way = way_of(mixing, entries, index)
                    self.assertEqual(climb(mixing, count, index, entry, way), root)

    def test_any_ways_climb(self):
        chance = random.Random(5)
        for count in range(1, 40):
            for index in range(count):
                sides = turns(count, index)
                entry = chance.getrandbits(80)
                way = tuple(chance.getrandbits(80) for _ in sides)
                _, root = plain_climb(BOUND, FACTOR, sides, entry, way)
                self.assertEqual(climb(WIDE, count, index, entry, way), root)

    def test_another_entry_another_way_or_another_index_climbs_elsewhere(self):
        entries = [30, 41, 52, 63, 74]
        root = root_of(WIDE, entries)
        way = way_of(WIDE, entries, 1)
        self.assertEqual(climb(WIDE, 5, 1, 41, way), root)
        self.assertNotEqual(climb(WIDE, 5, 1, 42, way), root)
        self.assertNotEqual(climb(WIDE, 5, 1, 41, way[:-1] + (1,)), root)
        self.assertNotEqual(climb(WIDE, 5, 1, 41, way[::-1]), root)
        self.assertNotEqual(climb(WIDE, 5, 0, 41, way), root)

    def test_ways_of_another_length_have_no_root(self):
        for count in range(1, 34):
            for index in range(count):
                length = len(turns(count, index))
                for shown in range(8):
                    root = climb(WIDE, count, index, 5, (6,) * shown)
                    self.assertEqual(root is None, shown != length, (count, index, shown))

    def test_great_counts(self):
        count = 2 ** 40
        for index in (0, 12345, count - 1):
            sides = turns(count, index)
            way = tuple(range(40))
            _, root = plain_climb(BOUND, FACTOR, sides, 9, way)
            self.assertEqual(climb(WIDE, count, index, 9, way), root)
            self.assertIsNone(climb(WIDE, count, index, 9, way[:-1]))
            self.assertIsNone(climb(WIDE, count, index, 9, way + (40,)))
        self.assertEqual(climb(WIDE, count + 1, count, 9, (8,)), pair(8, 9))
        self.assertIsNone(climb(WIDE, count + 1, count, 9, ()))
        self.assertIsNone(climb(WIDE, count + 1, count, 9, tuple(range(41))))


class ClashTestCase(unittest.TestCase):
    def check_clash(self, bound, factor, found, one_nodes, two_nodes):
        """The first nodes that differ are found, as a pair of tuples, and clash."""
        expected = [nodes for nodes in zip(one_nodes, two_nodes, strict=True) if nodes[0] != nodes[1]]
        self.assertEqual(found, expected[0])
        self.assertIs(type(found), tuple)
        self.assertEqual([type(node) for node in found], [tuple, tuple])
        one, two = found
        self.assertNotEqual(one, two)
        self.assertEqual(plain_digest(bound, factor, one), plain_digest(bound, factor, two))
        self.assertTrue(is_clash(Mixing(bound, factor), one, two))


class ClashOfWaysTest(ClashTestCase):
    def by_root(self, bound, factor, count, index):
        """All pairs (digest, way) of numbers below the bound, with their nodes, by their root."""
        sides = turns(count, index)
        groups = {}
        for entry, *way in itertools.product(range(bound), repeat=1 + len(sides)):
            nodes, root = plain_climb(bound, factor, sides, entry, way)
            groups.setdefault(root, []).append(((entry, tuple(way)), nodes))
        return groups.values()

    def test_all_pairs_under_small_bounds(self):
        for bound, factor, counts in ((2, 3, range(1, 8)), (3, 5, range(1, 5)), (5, 48271, (2, 3))):
            for count in counts:
                for index in range(count):
                    for group in self.by_root(bound, factor, count, index):
                        self.check_group(bound, factor, count, index, group)

    def check_group(self, bound, factor, count, index, group):
        mixing = Mixing(bound, factor)
        for (one, one_nodes), (two, two_nodes) in itertools.product(group, repeat=2):
            found = clash_of_ways(mixing, count, index, one, two)
            if one == two:
                self.assertIsNone(found)
            else:
                self.check_clash(bound, factor, found, one_nodes, two_nodes)

    def test_equal_pairs_are_no_clash(self):
        self.assertIsNone(clash_of_ways(WIDE, 1, 0, (5, ()), (5, ())))
        self.assertIsNone(clash_of_ways(WIDE, 3, 1, (5, (6, 7)), (5, (6, 7))))
        self.assertIsNone(clash_of_ways(Mixing(2, 2), 3, 1, (5, (6, 7)), (5, (6, 7))))

    def test_a_difference_at_the_root_and_one_below(self):
        # Under the bound 2 and the factor 2 a digest of small numbers is even or odd as the last
        # state is, and this one is so as the last number plus 1: the numbers before do not count.
        mixing = Mixing(2, 2)
        self.assertEqual(digest(mixing, (3, 0, 4)), digest(mixing, (3, 2, 4)))
        found = clash_of_ways(mixing, 2, 1, (4, (0,)), (4, (2,)))
        self.assertEqual(found, ((3, 0, 4), (3, 2, 4)))
        swapped = clash_of_ways(mixing, 2, 1, (4, (2,)), (4, (0,)))
        self.assertEqual(swapped, ((3, 2, 4), (3, 0, 4)))
        below = clash_of_ways(mixing, 3, 1, (4, (0, 9)), (4, (2, 9)))
        self.assertEqual(below, ((3, 0, 4), (3, 2, 4)))
        inner = digest(mixing, (3, 0, 4))
        both = clash_of_ways(mixing, 4, 1, (4, (0, 5)), (4, (2, 5)))
        self.assertEqual(both, ((3, 0, 4), (3, 2, 4)))
        above = clash_of_ways(mixing, 4, 3, (4, (0, 5)), (4, (2, 7)))
        self.assertEqual(above, ((3, 5, inner), (3, 7, inner)))

    def test_great_numbers_and_counts(self):
        prime = 2 ** 61 - 1
        count = 2 ** 40
        way = tuple(range(40))
        other = way[:7] + (7 + prime,) + way[8:]
        self.assertEqual(climb(WIDE, count, 0, 5, way), climb(WIDE, count, 0, 5, other))
        one, two = clash_of_ways(WIDE, count, 0, (5, way), (5, other))
        self.assertEqual((one[2], two[2]), (7, 7 + prime))
        self.assertEqual(one[:2], two[:2])
        self.assertTrue(is_clash(WIDE, one, two))


class ClashOfEntriesTest(ClashTestCase):
    def by_root(self, bound, factor, count):
        """All lists of numbers below the bound, by their root."""
        groups = {}
        for entries in itertools.product(range(bound), repeat=count):
            root = plain_root(bound, factor, entries)
            groups.setdefault(root, []).append(list(entries))
        return groups.values()

    def test_all_lists_under_small_bounds(self):
        for bound, factor, counts in ((2, 3, range(1, 8)), (3, 5, range(1, 5)), (7, 48271, (2, 3))):
            for count in counts:
                for group in self.by_root(bound, factor, count):
                    self.check_group(bound, factor, group)

    def check_group(self, bound, factor, group):
        mixing = Mixing(bound, factor)
        nodes = [list(plain_nodes(bound, factor, entries)) for entries in group]
        for (one, one_nodes), (two, two_nodes) in itertools.product(zip(group, nodes), repeat=2):
            before = (list(one), list(two))
            found = clash_of_entries(mixing, one, two)
            self.assertEqual((one, two), before)
            if one == two:
                self.assertIsNone(found)
            else:
                self.check_clash(bound, factor, found, one_nodes, two_nodes)

    def test_longer_lists(self):
        chance = random.Random(6)
        for count in (8, 9, 15, 16, 17, 33, 100):
            lists = [[chance.randrange(2) for _ in range(count)] for _ in range(40)]
            for root in (0, 1):
                group = [entries for entries in lists if plain_root(2, 3, entries) == root]
                self.check_group(2, 3, group)

    def test_equal_lists_are_no_clash(self):
        for count in range(1, 20):
            for mixing in (Mixing(2, 3), WIDE):
                self.assertIsNone(clash_of_entries(mixing, [7] * count, [7] * count))

    def test_the_first_part_is_ahead_of_the_second_one(self):
        prime = 2 ** 61 - 1
        one = list(range(8))
        two = [number + prime if number in (3, 4) else number for number in one]
        self.assertEqual(root_of(WIDE, one), root_of(WIDE, two))
        self.assertEqual(clash_of_entries(WIDE, one, two), ((3, 2, 3), (3, 2, 3 + prime)))
        self.assertEqual(clash_of_entries(WIDE, two, one), ((3, 2, 3 + prime), (3, 2, 3)))

    def test_a_deep_node_of_the_first_part_is_ahead_of_a_high_one_of_the_second_part(self):
        # The second part differs at its top, the first one deep within.
        prime = 2 ** 61 - 1
        one = [10, 11, 12, 13, 14, 15, 16]
        two = [10, 11 + prime, 12, 13, 14, 15, 16 + prime]
        self.assertEqual(root_of(WIDE, one), root_of(WIDE, two))
        self.assertEqual(clash_of_entries(WIDE, one, two), ((3, 10, 11), (3, 10, 11 + prime)))

    def test_a_node_is_ahead_of_those_within_its_parts(self):
        # The last of seven stands right below the second part's top, the fifth one level deeper.
        prime = 2 ** 61 - 1
        one = [10, 11, 12, 13, 14, 15, 16]
        two = [10, 11, 12, 13, 14 + prime, 15, 16 + prime]
        top = pair(14, 15)
        self.assertEqual(clash_of_entries(WIDE, one, two), ((3, top, 16), (3, top, 16 + prime)))


if __name__ == "__main__":
    unittest.main()
