import itertools
import random
import unittest

from sealround.digests import Mixing, digest
from sealround.links import held_at, holds, is_link
from sealround.things import beacon, document, head, renewal
from sealround.trees import root_of, way_of
from tests.plain import PRIME, plain_back_rounds, plain_digest, plain_root, plain_way
from tests.plain_papers import plain_holds, plain_link, plain_sides

BOUND = 2 ** 64
FACTOR = 1234567
WIDE = Mixing(BOUND, FACTOR)
GREAT = 2 ** 70

BEACON = (1, 30, 40)
LETTER = (2, 3, 70, 71, 70, 90, 91)
EMPTY = (2, 0)
RENEWAL = (5, 50)
ENTRIES = [30, 41, 52, 63, 74]
ROUND_0 = (4, 9, 0, 5, 5, root_of(WIDE, ENTRIES))
ROUND_12 = (4, 9, 12, 99, 5, root_of(WIDE, ENTRIES), 11, 10, 8)


class HeldAtTest(unittest.TestCase):
    def all_held(self, row, word):
        return [held_at(WIDE, row, (word, index)) for index in range(6)]

    def test_cites_of_a_document(self):
        self.assertEqual(self.all_held(LETTER, "cite"), [70, 71, 70, None, None, None])
        self.assertEqual(self.all_held((2, 1, 8), "cite"), [8, None, None, None, None, None])
        self.assertEqual(self.all_held(EMPTY, "cite"), [None] * 6)
        self.assertEqual(self.all_held((2, 0, 7, 8), "cite"), [None] * 6)

    def test_back_links_of_a_head(self):
        self.assertEqual(self.all_held(ROUND_12, "back"), [11, 10, 8, None, None, None])
        self.assertEqual(self.all_held((4, 9, 1, 6, 1, 7, 33), "back")[:2], [33, None])
        self.assertEqual(self.all_held(ROUND_0, "back"), [None] * 6)

    def test_things_of_another_kind(self):
        for row in (BEACON, RENEWAL, ROUND_0, ROUND_12):
            self.assertEqual(self.all_held(row, "cite"), [None] * 6)
        for row in (BEACON, RENEWAL, LETTER, EMPTY):
            self.assertEqual(self.all_held(row, "back"), [None] * 6)

    def test_an_entry_is_no_place_of_one_digest(self):
        for row in (ROUND_0, ROUND_12, LETTER, BEACON):
            self.assertIsNone(held_at(WIDE, row, ("entry", 0, ())))
            self.assertIsNone(held_at(WIDE, row, ("entry", 4, way_of(WIDE, ENTRIES, 4))))

    def test_digest_0_is_held_like_any_other(self):
        self.assertEqual(held_at(WIDE, (2, 2, 0, 0), ("cite", 1)), 0)
        self.assertEqual(held_at(WIDE, (4, 9, 1, 6, 1, 7, 0), ("back", 0)), 0)

    def test_great_numbers(self):
        self.assertEqual(held_at(WIDE, (2, 1, GREAT), ("cite", 0)), GREAT)
        for index in (GREAT, BOUND, 2 ** 31, 10 ** 4000):
            for row in (LETTER, ROUND_12, BEACON, RENEWAL):
                self.assertIsNone(held_at(WIDE, row, ("cite", index)))
                self.assertIsNone(held_at(WIDE, row, ("back", index)))
        great = head(9, GREAT, 5, 1, 0, list(range(100, 171)))
        self.assertEqual(held_at(WIDE, great, ("back", 70)), 170)
        self.assertIsNone(held_at(WIDE, great, ("back", 71)))

    def test_an_index_below_0_is_no_place(self):
        for row, word in ((LETTER, "cite"), (ROUND_12, "back")):
            self.assertIsNone(held_at(WIDE, row, (word, -1)))
            self.assertIs(holds(WIDE, row, (word, -1), row[-1]), False)
        self.assertIs(holds(WIDE, (4, 9, 0, 5, 1, 30), ("entry", -1, ()), 30), False)


class HoldsTest(unittest.TestCase):
    def check(self, row, place, digests):
        for told in (0, 5, 8, 10, 11, 30, 40, 41, 50, 70, 71, 90, GREAT):
            with self.subTest(row=row, place=place, told=told):
                self.assertIs(holds(WIDE, row, place, told), told in digests)

    def test_cites_and_back_links(self):
        self.check(LETTER, ("cite", 0), [70])
        self.check(LETTER, ("cite", 1), [71])
        self.check(LETTER, ("cite", 2), [70])
        self.check(LETTER, ("cite", 3), [])
        self.check(ROUND_12, ("back", 0), [11])
        self.check(ROUND_12, ("back", 2), [8])
        self.check(ROUND_12, ("back", 3), [])
        self.check((2, 1, GREAT), ("cite", 0), [GREAT])

    def test_things_of_another_kind(self):
        for index in range(3):
            for row in (BEACON, RENEWAL, EMPTY, ROUND_0, ROUND_12):
                self.check(row, ("cite", index), [])
            for row in (BEACON, RENEWAL, EMPTY, LETTER, ROUND_0):
                self.check(row, ("back", index), [])
            for row in (BEACON, RENEWAL, EMPTY, LETTER):
                self.check(row, ("entry", index, ()), [])

    def test_a_renewal_holds_none(self):
        for place in (("cite", 0), ("back", 0), ("entry", 0, ()), ("cite", 1), ("back", 1)):
            self.check(RENEWAL, place, [])
            self.check(renewal(1), place, [])

    def test_one_entry_is_held_by_the_empty_way(self):
        single = (4, 9, 0, 5, 1, 30)
        self.check(single, ("entry", 0, ()), [30])
        self.check(single, ("entry", 1, ()), [])
        self.check(single, ("entry", 0, (30,)), [])

    def test_every_entry_by_its_way(self):
        chance = random.Random(1)
        for count in range(1, 20):
            entries = [chance.getrandbits(64) for _ in range(count)]
            row = (4, 9, 0, 5, count, plain_root(BOUND, FACTOR, entries))
            for index, entry in enumerate(entries):
                way = tuple(beside for _, beside in plain_way(BOUND, FACTOR, entries, index))
                self.check_way(row, index, entry, way)

    def check_way(self, row, index, entry, way):
        count = row[4]
        self.assertIs(holds(WIDE, row, ("entry", index, way), entry), True)
        self.assertIs(holds(WIDE, row, ("entry", index, way), entry + 1), False)
        self.assertIs(holds(WIDE, row, ("entry", index, way + (0,)), entry), False)
        self.assertIs(holds(WIDE, row, ("entry", index, (0,) + way), entry), False)
        self.assertIs(holds(WIDE, row, ("entry", index, way + way[-1:]), entry), len(way) == 0)
        for at in range(len(way)):
            changed = way[:at] + (way[at] + 1,) + way[at + 1:]
            self.assertIs(holds(WIDE, row, ("entry", index, changed), entry), False)
            shorter = way[:at] + way[at + 1:]
            self.assertIs(holds(WIDE, row, ("entry", index, shorter), entry), False)
        for other in range(count + 3):
            found = holds(WIDE, row, ("entry", other, way), entry)
            self.assertIs(found, other == index, (row, index, other))
        for other in (GREAT, 10 ** 4000):
            self.assertIs(holds(WIDE, row, ("entry", other, way), entry), False)

    def test_the_index_is_less_than_the_count_even_if_a_way_climbs(self):
        # The way of the last entry, and ways of other lengths, at indexes beyond the count.
        for count in range(1, 9):
            entries = list(range(20, 20 + count))
            row = (4, 9, 0, 5, count, root_of(WIDE, entries))
            way = way_of(WIDE, entries, count - 1)
            for index in range(count, 2 * count + 2):
                self.assertIs(holds(WIDE, row, ("entry", index, way), entries[-1]), False)

    def test_another_count_holds_no_longer(self):
        way = way_of(WIDE, ENTRIES, 4)
        root = root_of(WIDE, ENTRIES)
        self.assertIs(holds(WIDE, (4, 9, 0, 5, 5, root), ("entry", 4, way), 74), True)
        for count in (1, 2, 3, 4, 6, 7, 8, 9):
            self.assertIs(holds(WIDE, (4, 9, 0, 5, count, root), ("entry", 4, way), 74), False)
        self.assertIs(holds(WIDE, (4, 9, 0, 5, 5, root + 1), ("entry", 4, way), 74), False)

    def test_great_counts(self):
        way = tuple(range(70))
        below = 9
        for beside in way:
            below = plain_digest(BOUND, FACTOR, (3, below, beside))
        row = (4, 9, 0, 5, GREAT, below)
        self.assertIs(holds(WIDE, row, ("entry", 0, way), 9), True)
        self.assertIs(holds(WIDE, row, ("entry", 1, way), 9), False)
        self.assertIs(holds(WIDE, row, ("entry", 0, way[:-1]), 9), False)
        self.assertIs(holds(WIDE, row, ("entry", GREAT, way), 9), False)
        last = plain_digest(BOUND, FACTOR, (3, 8, 9))
        row = (4, 9, 0, 5, GREAT + 1, last)
        self.assertIs(holds(WIDE, row, ("entry", GREAT, (8,)), 9), True)
        self.assertIs(holds(WIDE, row, ("entry", GREAT + 1, (8,)), 9), False)

    def test_all_ways_under_small_bounds(self):
        for bound, factor in ((2, 3), (3, 5)):
            mixing = Mixing(bound, factor)
            for count, root in itertools.product(range(1, 6), range(bound)):
                row = (4, 9, 0, 5, count, root)
                for index, length in itertools.product(range(count + 2), range(4)):
                    for entry, *way in itertools.product(range(bound), repeat=1 + length):
                        place = ("entry", index, tuple(way))
                        expected = plain_holds(bound, factor, row, place, entry)
                        self.assertIs(holds(mixing, row, place, entry), expected, (row, place))


class LinkTest(unittest.TestCase):
    def test_at_a_cite(self):
        for before in (BEACON, LETTER, EMPTY, RENEWAL, ROUND_0, ROUND_12):
            row = document([7, digest(WIDE, before), 8], [digest(WIDE, BEACON)])
            self.assertIs(is_link(WIDE, before, row, ("cite", 1)), True)
            for place in (("cite", 0), ("cite", 2), ("cite", 3), ("back", 1), ("entry", 1, ())):
                self.assertIs(is_link(WIDE, before, row, place), False)

    def test_the_digest_of_another_row_is_no_link(self):
        row = document([digest(WIDE, BEACON)], [])
        for before in (LETTER, EMPTY, RENEWAL, ROUND_0, (1, 30, 41), (1, 31, 40)):
            self.assertIs(is_link(WIDE, before, row, ("cite", 0)), False)

    def test_at_an_entry(self):
        for before in (BEACON, LETTER, EMPTY, RENEWAL, ROUND_0, ROUND_12):
            entries = [7, 8, digest(WIDE, before)]
            row = head(9, 0, 5, 3, root_of(WIDE, entries), [])
            way = way_of(WIDE, entries, 2)
            self.assertIs(is_link(WIDE, before, row, ("entry", 2, way)), True)
            self.assertIs(is_link(WIDE, (1, 1, 1), row, ("entry", 2, way)), False)
            self.assertIs(is_link(WIDE, before, row, ("entry", 2, way + (1,))), False)
            self.assertIs(is_link(WIDE, before, row, ("entry", 2, (way[0] + 1,))), False)
            self.assertIs(is_link(WIDE, before, row, ("entry", 1, way)), False)
            self.assertIs(is_link(WIDE, before, row, ("entry", 3, way)), False)
            self.assertIs(is_link(WIDE, before, row, ("cite", 2)), False)

    def test_an_entry_of_an_earlier_or_a_later_head_of_any_service(self):
        for before in ((4, 9, 0, 5, 1, 1), (4, 9, 0, 6, 1, 1), (4, 8, 0, 100, 1, 1)):
            row = head(9, 0, 5, 1, digest(WIDE, before), [])
            self.assertIs(is_link(WIDE, before, row, ("entry", 0, ())), True)
            row = document([digest(WIDE, before)], [])
            self.assertIs(is_link(WIDE, before, row, ("cite", 0)), True)

    def test_at_each_back_link(self):
        for number in range(33):
            backs = [head(9, back, 50, 1, 3, [0] * len(plain_back_rounds(back)))
                     for back in plain_back_rounds(number)]
            row = head(9, number, 51, 1, 3, [digest(WIDE, back) for back in backs])
            for at, before in enumerate(backs):
                for index in range(len(backs) + 2):
                    found = is_link(WIDE, before, row, ("back", index))
                    self.assertIs(found, index == at, (number, at, index))

    def back_link(self, before, number=12, index=2, hour=99):
        """Whether a row whose digest stands at a back link of a round of service 9 is a link."""
        backs = [0] * len(plain_back_rounds(number))
        backs[index] = digest(WIDE, before)
        row = head(9, number, hour, 1, 3, backs)
        self.assertIs(holds(WIDE, row, ("back", index), backs[index]), True)
        return is_link(WIDE, before, row, ("back", index))

    def test_a_back_link_asks_for_the_service_the_round_and_a_lesser_hour(self):
        backs = [0] * 4
        self.assertIs(self.back_link(head(9, 8, 98, 1, 3, backs)), True)
        self.assertIs(self.back_link(head(9, 8, 0, 1, 3, backs)), True)
        self.assertIs(self.back_link(head(9, 8, 99, 1, 3, backs)), False)
        self.assertIs(self.back_link(head(9, 8, 100, 1, 3, backs)), False)
        self.assertIs(self.back_link(head(9, 8, GREAT, 1, 3, backs)), False)
        self.assertIs(self.back_link(head(8, 8, 98, 1, 3, backs)), False)
        self.assertIs(self.back_link(head(10, 8, 98, 1, 3, backs)), False)
        for number in (0, 4, 7, 9, 10, 11, 12, 16):
            shown = head(9, number, 98, 1, 3, [0] * len(plain_back_rounds(number)))
            self.assertIs(self.back_link(shown), False)
            self.assertIs(self.back_link(shown, 12, 0), number == 11)
            self.assertIs(self.back_link(shown, 12, 1), number == 10)

    def test_great_rounds_and_hours(self):
        shown = head(9, 0, GREAT, 1, 3, [])
        self.assertIs(self.back_link(shown, GREAT, 70, GREAT + 1), True)
        self.assertIs(self.back_link(shown, GREAT, 69, GREAT + 1), False)
        self.assertIs(self.back_link(shown, GREAT, 70, GREAT), False)

    def test_things_of_other_kinds_at_a_back_link(self):
        for before in ((1, 8, 98), (2, 0), (2, 1, 8), (2, 0, 8, 98, 1, 3), (5, 9), (5, 8)):
            self.assertIs(self.back_link(before), False)
        # A document whose numbers stand where those of a head would stand.
        self.assertIs(self.back_link((2, 9, 8, 98, 1, 3, 0, 0, 0, 0, 0)), False)

    def test_a_row_that_climbs_though_it_is_none_of_the_entries(self):
        bound, factor = 5, 48271
        mixing = Mixing(bound, factor)
        entries = [plain_digest(bound, factor, beacon(0, value)) for value in range(3)]
        row = head(9, 0, 5, 3, plain_root(bound, factor, entries), [])
        found = []
        for before in [beacon(1, value) for value in range(20)] + [(2, 0, 4), (5, 3)]:
            told = plain_digest(bound, factor, before)
            for index in range(4):
                for way in itertools.product(range(bound), repeat=2):
                    place = ("entry", index, way)
                    expected = plain_link(bound, factor, before, row, place)
                    self.assertIs(is_link(mixing, before, row, place), expected)
                    if expected and told not in entries:
                        found.append(place)
        # Such rows are there: whoever shows one makes a link.
        self.assertGreater(len(found), 10)

    def test_all_pairs_of_some_things_under_small_bounds(self):
        bound, factor = 3, 7
        mixing = Mixing(bound, factor)
        heads = [(4, service, number, hour, 2, root, *[held] * len(plain_back_rounds(number)))
                 for service, number, hour, root, held in
                 itertools.product((1, 2), (0, 1, 2), (5, 6), (0, 1), (1, 2))]
        things = heads + [BEACON, RENEWAL, (2, 2, 1, 0), (2, 0, 1), (2, 3, 2, 1, 0)]
        places = [(word, index) for word in ("cite", "back") for index in range(4)]
        places += [("entry", index, way) for index in range(3)
                   for length in range(3) for way in itertools.product((0, 2), repeat=length)]
        links = 0
        for before, row, place in itertools.product(things, things, places):
            expected = plain_link(bound, factor, before, row, place)
            self.assertIs(is_link(mixing, before, row, place), expected, (before, row, place))
            links += expected
        self.assertGreater(links, 100)

    def test_numbers_that_differ_by_the_prime_have_one_digest(self):
        row = document([digest(WIDE, BEACON)], [])
        self.assertIs(is_link(WIDE, (1, 30 + PRIME, 40), row, ("cite", 0)), True)
        self.assertIs(is_link(WIDE, (1, 30, 40 + PRIME), row, ("cite", 0)), True)

    def test_sides_of_the_second_computation(self):
        self.assertEqual(plain_sides(7, 5), [True, False, True])
        self.assertEqual(plain_sides(7, 6), [True, True])


if __name__ == "__main__":
    unittest.main()
