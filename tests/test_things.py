import itertools
import unittest

from sealround.things import (
    back_rounds,
    beacon,
    document,
    head,
    is_thing,
    is_thing_of,
    kind_of,
    renewal,
    way_back,
)
from tests.plain import plain_back_rounds

GREAT = 2 ** 60


class IsThingTest(unittest.TestCase):
    def are_things(self, *rows):
        for row in rows:
            with self.subTest(row=row):
                self.assertIs(is_thing(row), True)

    def are_none(self, *rows):
        for row in rows:
            with self.subTest(row=row):
                self.assertIs(is_thing(row), False)

    def test_the_empty_row(self):
        self.are_none(())

    def test_beacons(self):
        self.are_things((1, 0, 0), (1, 8, 5), (1, 2 ** 80, 2 ** 70))
        self.are_none((1,), (1, 8), (1, 8, 5, 0))

    def test_documents(self):
        self.are_things((2, 0), (2, 0, 7), (2, 1, 7), (2, 1, 7, 8), (2, 2, 7, 8), (2, 0, 2 ** 70))
        self.are_none((2,), (2, 1), (2, 2, 7), (2, 3, 7, 8), (2, 2 ** 70, 7))

    def test_renewals(self):
        self.are_things((5, 0), (5, 2 ** 70))
        self.are_none((5,), (5, 1, 1))

    def test_heads(self):
        self.are_things(
            (4, 9, 0, 5, 1, 77),
            (4, 9, 1, 5, 1, 77, 11),
            (4, 9, 2, 5, 3, 77, 11, 12),
            (4, 9, 3, 5, 3, 77, 11),
            (4, 9, 8, 5, 3, 77, 11, 12, 13, 14),
            (4, 9, 12, 5, 3, 77, 11, 12, 13),
        )
        self.are_none((4,), (4, 9), (4, 9, 0), (4, 9, 0, 5), (4, 9, 0, 5, 1))

    def test_a_head_has_as_many_back_digests_as_rounds_back(self):
        for number in range(64):
            many = len(plain_back_rounds(number))
            for shown in range(10):
                row = (4, 9, number, 5, 1, 77) + tuple(range(shown))
                with self.subTest(number=number, shown=shown):
                    self.assertIs(is_thing(row), shown == many)

    def test_heads_of_great_rounds(self):
        for number, many in (
            (GREAT, 61),
            (GREAT - 1, 1),
            (GREAT - 2, 2),
            (GREAT - 2 ** 59, 60),
            (GREAT + 2 ** 30, 31),
            (3 * 2 ** 58, 59),
        ):
            start = (4, 0, number, 0, 1, 0)
            self.are_things(start + (0,) * many)
            self.are_none(start, start + (0,) * (many - 1) if many > 1 else start)
            self.are_none(start + (0,) * (many + 1))

    def test_a_head_has_at_least_one_entry(self):
        self.are_none((4, 9, 0, 5, 0, 77), (4, 9, 1, 5, 0, 77, 11))
        self.are_things((4, 0, 0, 0, 1, 0), (4, 0, 0, 0, 2 ** 70, 0))

    def test_other_kinds(self):
        self.are_none((3, 1, 2), (0,), (0, 1, 2), (6, 1), (6, 1, 2), (3, 0, 0), (1 + 2 ** 64, 1, 2))
        self.are_none((3,), (3, 1), (0, 0, 0, 0, 1, 0), (3, 0, 0, 0, 1, 0), (5 + 2 ** 64, 1))

    def test_one_number_less_or_more_and_another_kind(self):
        # Only a document may have further numbers; a document without them may lose none.
        self.are_none((1, 8, 5)[:-1], (2, 2, 7, 8)[:-1], (4, 9, 1, 5, 1, 77, 11)[:-1], (5, 3)[:-1])
        self.are_none((1, 8, 5, 0), (4, 9, 1, 5, 1, 77, 11, 0), (5, 3, 0))
        self.are_things((2, 2, 7, 8, 0))
        for kind in (0, 1, 3, 5, 6):
            self.are_none((kind, 9, 1, 5, 1, 77, 11), (kind, 2, 7, 8))
        for kind in (0, 3, 4, 5, 6):
            self.are_none((kind, 8, 5))

    def test_things_of_one_kind(self):
        rows = ((1, 8, 5), (2, 1, 7), (4, 9, 0, 5, 1, 77), (5, 3))
        for kind in range(7):
            for row in rows:
                self.assertIs(is_thing_of(row, kind), row[0] == kind)
                self.assertIs(is_thing_of(row[:1], kind), False)
            self.assertIs(is_thing_of((), kind), False)
            self.assertIs(is_thing_of((3, 1, 2), kind), False)


class MakingTest(unittest.TestCase):
    def test_rows(self):
        self.assertEqual(beacon(8, 5), (1, 8, 5))
        self.assertEqual(document([], []), (2, 0))
        self.assertEqual(document([7, 8], []), (2, 2, 7, 8))
        self.assertEqual(document([], [7, 8]), (2, 0, 7, 8))
        self.assertEqual(document([7, 8], [9, 0, 9]), (2, 2, 7, 8, 9, 0, 9))
        self.assertEqual(renewal(2 ** 70), (5, 2 ** 70))
        self.assertEqual(head(9, 0, 5, 1, 77, []), (4, 9, 0, 5, 1, 77))
        self.assertEqual(head(9, 2, 5, 3, 77, [11, 12]), (4, 9, 2, 5, 3, 77, 11, 12))

    def test_rows_by_the_names_of_the_arguments(self):
        self.assertEqual(beacon(value=5, hour=8), (1, 8, 5))
        self.assertEqual(document(body=[1], cites=[2]), (2, 1, 2, 1))
        self.assertEqual(renewal(digest=3), (5, 3))
        made = head(backs=[6], root=5, count=4, hour=3, number=1, service=2)
        self.assertEqual(made, (4, 2, 1, 3, 4, 5, 6))

    def test_what_is_made_is_a_tuple_and_a_thing_of_its_kind(self):
        made = (
            (1, beacon(0, 0)),
            (2, document([], [])),
            (2, document([3], [4, 5])),
            (4, head(0, 0, 0, 1, 0, [])),
            (4, head(0, GREAT, 0, 1, 0, [0] * 61)),
            (5, renewal(0)),
        )
        for kind, row in made:
            with self.subTest(row=row):
                self.assertIs(tuple, type(row))
                self.assertIs(is_thing(row), True)
                self.assertEqual(kind_of(row), kind)

    def test_lists_stay_as_they_were(self):
        cites, body, backs = [7, 8], [9], [11, 12]
        cited = document(cites, body)
        signed = head(9, 2, 5, 3, 77, backs)
        self.assertEqual((cites, body, backs), ([7, 8], [9], [11, 12]))
        cites.append(1)
        body.append(1)
        backs.append(1)
        self.assertEqual(cited, (2, 2, 7, 8, 9))
        self.assertEqual(signed, (4, 9, 2, 5, 3, 77, 11, 12))

    def test_kind_of(self):
        for row in ((1, 0, 0), (2, 0), (4, 9, 0, 5, 1, 77), (5, 0)):
            self.assertEqual(kind_of(row), row[0])


class BackRoundsTest(unittest.TestCase):
    def test_the_examples_of_the_document(self):
        self.assertEqual(back_rounds(0), [])
        self.assertEqual(back_rounds(12), [11, 10, 8])
        self.assertEqual(back_rounds(8), [7, 6, 4, 0])

    def test_small_rounds(self):
        for number in range(64):
            with self.subTest(number=number):
                self.assertEqual(back_rounds(number), plain_back_rounds(number))

    def test_great_rounds(self):
        near = [GREAT + shift for shift in range(-40, 41)]
        multiples = [GREAT - 2 ** power for power in range(60)]
        multiples += [GREAT + 2 ** power for power in range(60)]
        multiples += [odd * 2 ** 50 for odd in range(1023, 1030, 2)]
        for number in near + multiples:
            with self.subTest(number=number):
                self.assertEqual(back_rounds(number), plain_back_rounds(number))

    def test_great_rounds_by_hand(self):
        self.assertEqual(back_rounds(GREAT), [GREAT - 2 ** power for power in range(61)])
        self.assertEqual(back_rounds(GREAT + 1), [GREAT])
        self.assertEqual(back_rounds(GREAT + 4), [GREAT + 3, GREAT + 2, GREAT])
        self.assertEqual(back_rounds(2 ** 400)[-1], 0)
        self.assertEqual(len(back_rounds(2 ** 400)), 401)

    def test_the_list_belongs_to_the_caller(self):
        first = back_rounds(12)
        first.append(99)
        self.assertEqual(back_rounds(12), [11, 10, 8])


class WayBackTest(unittest.TestCase):
    def shortest_ways(self, start, end):
        """All shortest ways, by a search that widens round by round."""
        ways = [[start]]
        while not any(way[-1] == end for way in ways):
            ways = [way + [back] for way in ways for back in plain_back_rounds(way[-1]) if back >= end]
        return [way for way in ways if way[-1] == end]

    def test_small_rounds(self):
        for start, end in itertools.product(range(41), repeat=2):
            if end <= start:
                with self.subTest(start=start, end=end):
                    self.assertEqual([way_back(start, end)], self.shortest_ways(start, end))

    def test_by_hand(self):
        self.assertEqual(way_back(8, 0), [8, 0])
        self.assertEqual(way_back(13, 5), [13, 12, 8, 6, 5])
        self.assertEqual(way_back(13, 0), [13, 12, 8, 0])
        self.assertEqual(way_back(7, 6), [7, 6])

    def test_from_a_round_to_itself(self):
        for number in (0, 1, 8, 12, GREAT, GREAT - 1):
            self.assertEqual(way_back(number, number), [number])

    def test_great_rounds(self):
        ends = (0, 1, 2 ** 30, 2 ** 59 - 1, 2 ** 59 + 12345, GREAT - 2 ** 20 - 7, GREAT - 1)
        for start in (GREAT, GREAT + 1, GREAT + 2 ** 59 - 1, 2 * GREAT - 1, GREAT + 98765):
            for end in ends:
                with self.subTest(start=start, end=end):
                    way = way_back(start, end)
                    self.assertEqual((way[0], way[-1]), (start, end))
                    self.assertLess(len(way), 130)
                    for later, earlier in itertools.pairwise(way):
                        fitting = [back for back in plain_back_rounds(later) if back >= end]
                        self.assertEqual(earlier, min(fitting))

    def test_great_rounds_by_hand(self):
        self.assertEqual(way_back(GREAT, 0), [GREAT, 0])
        self.assertEqual(way_back(GREAT + 1, 0), [GREAT + 1, GREAT, 0])
        down = [2 ** power for power in range(60, -1, -1)]
        self.assertEqual(way_back(GREAT, 1), down)
        self.assertEqual(len(way_back(2 * GREAT - 1, 1)), 121)

    def test_an_end_beyond_the_limits_raises_no_error(self):
        self.assertEqual(way_back(5, 6), [5])
        self.assertEqual(way_back(13, -1), [13, 12, 8, 0])

    def test_the_list_belongs_to_the_caller(self):
        way_back(13, 5).clear()
        self.assertEqual(way_back(13, 5), [13, 12, 8, 6, 5])


if __name__ == "__main__":
    unittest.main()
