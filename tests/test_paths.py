import itertools
import unittest

from sealround.digests import Mixing
from sealround.libraries import Library
from sealround.papers import Paper, check, is_accepted, rows_of
from sealround.things import beacon, document, head, renewal, way_back
from tests.plain import PRIME, plain_back_rounds, plain_digest, plain_root
from tests.plain_papers import plain_link, plain_places
from tests.wide import BOUND, FACTOR, WIDE, cite, told
from tests.worlds import World


def all_links(bound, factor, things):
    """The links between these things: from the row before and the row to their places in order."""
    links = {}
    for row, entries in things:
        for place, held in plain_places(bound, factor, row, entries):
            for before, _ in things:
                if held == plain_digest(bound, factor, before):
                    if plain_link(bound, factor, before, row, place):
                        links.setdefault((before, row), []).append(place)
    return links


def shortest_paths(links, start, end):
    """All lists of rows from the start to the end with as few rows as possible."""
    paths, seen = [[start]], [start]
    while paths and not any(rows[-1] == end for rows in paths):
        longer = [rows + [row] for rows in paths for before, row in links if before == rows[-1]]
        paths = [rows for rows in longer if rows[-1] not in seen]
        seen += [rows[-1] for rows in paths]
    return [rows for rows in paths if rows[-1] == end]


class PathCase(unittest.TestCase):
    def library_of(self, things, mixing=WIDE):
        """A library with those of the things that it takes, and these things."""
        library = Library(mixing)
        taken = [(row, entries) for row, entries in things if library.put(row, entries) is None]
        self.assertEqual(library.rows(), [row for row, _ in taken])
        return library, taken

    def check_path(self, library, links, start, end):
        """Compares a path with the search; returns all shortest lists of rows."""
        found = library.path(start, end)
        paths = shortest_paths(links, start, end)
        if not paths:
            self.assertIsNone(found, (start, end))
            return paths
        rows = min(paths)
        steps = [(later, links[before, later][0]) for before, later in itertools.pairwise(rows)]
        self.assertIs(type(found), Paper)
        self.assertEqual((found.first, found.steps), (start, steps))
        self.assertIs(is_accepted(library.mixing, found), True)
        return paths

    def check_all(self, bound, factor, things):
        """Compares the paths between all pairs; counts those with none, with one, with several."""
        library, taken = self.library_of(things, Mixing(bound, factor))
        links = all_links(bound, factor, taken)
        counts = {"none": 0, "one": 0, "several": 0, "long": 0, "places": 0}
        for start, end in itertools.product(library.rows(), repeat=2):
            paths = self.check_path(library, links, start, end)
            counts["none"] += not paths
            counts["one"] += len(paths) == 1
            counts["several"] += len(paths) > 1
            counts["long"] += bool(paths) and len(paths[0]) > 3
        counts["places"] += len([places for places in links.values() if len(places) > 1])
        return counts


class PathByHandTest(PathCase):
    def path(self, things, start, end):
        """The steps of the path, or None."""
        library, _ = self.library_of(things)
        paper = library.path(start, end)
        if paper is None:
            return None
        self.assertEqual(paper.first, start)
        self.assertEqual(check(WIDE, paper), (told(start), told(end)))
        return paper.steps

    def path_of_rows(self, rows, start, end):
        return self.path([(row, []) for row in rows], start, end)

    def test_from_a_thing_to_itself(self):
        stone = beacon(3, 4)
        letter = cite(stone)
        for row in (stone, letter, renewal(7)):
            self.assertEqual(self.path_of_rows([stone, letter, renewal(7)], row, row), [])

    def test_one_link_and_none_against_it(self):
        stone = beacon(3, 4)
        letter = document([5, told(stone), 6], [])
        self.assertEqual(self.path_of_rows([letter, stone], stone, letter), [(letter, ("cite", 1))])
        self.assertIsNone(self.path_of_rows([letter, stone], letter, stone))
        self.assertIsNone(self.path_of_rows([stone, beacon(3, 5)], stone, beacon(3, 5)))

    def test_a_body_and_a_renewal_hold_nothing(self):
        stone = beacon(3, 4)
        letter = document([5], [told(stone)])
        self.assertIsNone(self.path_of_rows([stone, letter], stone, letter))
        again = renewal(told(stone))
        self.assertIsNone(self.path_of_rows([stone, again], stone, again))

    def test_known_things_alone(self):
        stone = beacon(3, 4)
        middle = cite(stone)
        end = cite(middle)
        self.assertIsNone(self.path_of_rows([stone, end], stone, end))
        steps = [(middle, ("cite", 0)), (end, ("cite", 0))]
        self.assertEqual(self.path_of_rows([stone, end, middle], stone, end), steps)

    def test_as_few_steps_as_possible(self):
        stone = beacon(3, 4)
        first = cite(stone)
        second = cite(first)
        end = cite(second, first)
        rows = [stone, first, second, end]
        steps = [(first, ("cite", 0)), (end, ("cite", 1))]
        self.assertEqual(self.path_of_rows(rows, stone, end), steps)
        straight = cite(second, first, stone)
        steps = [(straight, ("cite", 2))]
        self.assertEqual(self.path_of_rows(rows + [straight], stone, straight), steps)

    def test_the_least_row_of_several(self):
        stone = beacon(3, 4)
        between = [cite(stone, body=body) for body in ((5,), (4, 9), (4,), (4, 0), (30,))]
        least = cite(stone, body=(4,))
        for order in itertools.permutations(between):
            end = cite(*order)
            steps = [(least, ("cite", 0)), (end, ("cite", order.index(least)))]
            self.assertEqual(self.path_of_rows([stone, *order, end], stone, end), steps)

    def test_rows_are_compared_as_numbers(self):
        stone = beacon(3, 4)
        nine, ten = cite(stone, body=(9,)), cite(stone, body=(10,))
        for rows in ((nine, ten), (ten, nine)):
            end = cite(*rows)
            found = self.path_of_rows([stone, *rows, end], stone, end)
            self.assertEqual([row for row, _ in found], [nine, end])

    def test_the_first_row_that_differs_counts(self):
        stone = beacon(3, 4)
        low, high = cite(stone, body=(1,)), cite(stone, body=(2,))
        # The way through the lower row goes on through the greater one.
        upper, under = document([told(low)], [9]), document([told(low)], [1])
        other = document([told(high)], [0])
        ends = itertools.permutations((upper, other))
        for shown in ends:
            end = cite(*shown)
            found = self.path_of_rows([stone, high, low, *shown, end], stone, end)
            self.assertEqual([row for row, _ in found], [low, upper, end])
        end = cite(upper, other, under)
        found = self.path_of_rows([stone, high, low, upper, other, under, end], stone, end)
        self.assertEqual([row for row, _ in found], [low, under, end])

    def test_a_lesser_row_that_leads_nowhere_or_farther(self):
        stone = beacon(3, 4)
        low, high = cite(stone, body=(1,)), cite(stone, body=(2,))
        detour = cite(low)
        end = cite(detour, high)
        rows = [stone, low, high, detour, end]
        steps = [(high, ("cite", 0)), (end, ("cite", 1))]
        self.assertEqual(self.path_of_rows(rows, stone, end), steps)
        alone = cite(high)
        steps = [(high, ("cite", 0)), (alone, ("cite", 0))]
        self.assertEqual(self.path_of_rows(rows + [alone], stone, alone), steps)

    def test_the_first_cite_counts(self):
        stone = beacon(3, 4)
        letter = document([7, told(stone), 7, told(stone), told(stone)], [])
        self.assertEqual(self.path_of_rows([stone, letter], stone, letter), [(letter, ("cite", 1))])

    def head_of(self, entries, number=0, hour=50, backs=()):
        root = plain_root(BOUND, FACTOR, entries)
        return head(9, number, hour, len(entries), root, list(backs))

    def test_the_first_entry_counts_with_its_way(self):
        stone = beacon(3, 4)
        entries = [70, 71, told(stone), 72, told(stone)]
        row = self.head_of(entries)
        inner = plain_digest(BOUND, FACTOR, (3, 70, 71))
        steps = [(row, ("entry", 2, (72, inner, told(stone))))]
        self.assertEqual(self.path([(stone, []), (row, entries)], stone, row), steps)
        single = self.head_of([told(stone)])
        things = [(stone, []), (single, [told(stone)])]
        self.assertEqual(self.path(things, stone, single), [(single, ("entry", 0, ()))])

    def test_the_ways_are_those_of_the_entries_that_are_known(self):
        stone = beacon(3, 4)
        for shown in (70, 70 + PRIME):
            entries = [told(stone), shown]
            row = self.head_of([told(stone), 70])
            steps = [(row, ("entry", 0, (shown,)))]
            self.assertEqual(self.path([(stone, []), (row, entries)], stone, row), steps)

    def test_a_back_link_comes_ahead_of_an_entry(self):
        first = self.head_of([70])
        entries = [told(first), 71]
        second = self.head_of(entries, 1, 51, [told(first)])
        things = [(first, [70]), (second, entries)]
        self.assertEqual(self.path(things, first, second), [(second, ("back", 0))])

    def test_the_first_place_that_makes_a_link_counts(self):
        first = self.head_of([70])
        entries = [71, told(first)]
        # The hour is not greater, so the back link is none.
        second = self.head_of(entries, 1, 50, [told(first)])
        steps = [(second, ("entry", 1, (71,)))]
        self.assertEqual(self.path([(first, [70]), (second, entries)], first, second), steps)
        alone = self.head_of([71], 1, 50, [told(first)])
        self.assertIsNone(self.path([(first, [70]), (alone, [71])], first, alone))
        # Round 2 goes back to the rounds 1 and 0: only the second back link may hold round 0.
        third = self.head_of([71], 2, 60, [told(first), told(first)])
        self.assertEqual(self.path([(first, [70]), (third, [71])], first, third), [(third, ("back", 1))])

    def test_another_service_is_no_back_link(self):
        first = head(8, 0, 40, 1, 70, [])
        second = self.head_of([71], 1, 50, [told(first)])
        self.assertIsNone(self.path([(first, [70]), (second, [71])], first, second))
        letter = cite(first)
        entries = [told(letter)]
        third = self.head_of(entries, 1, 50, [told(first)])
        steps = [(letter, ("cite", 0)), (third, ("entry", 0, ()))]
        things = [(first, [70]), (letter, []), (third, entries)]
        self.assertEqual(self.path(things, first, third), steps)

    def test_rounds_follow_the_shortest_way_back(self):
        heads = []
        for number in range(40):
            backs = [told(heads[back]) for back in plain_back_rounds(number)]
            heads.append(self.head_of([number], number, 50 + number, backs))
        library, _ = self.library_of([(row, [row[2]]) for row in heads])
        for end, start in itertools.combinations_with_replacement(range(40), 2):
            rows = [heads[number] for number in way_back(start, end)]
            paper = library.path(heads[end], heads[start])
            self.assertEqual(rows_of(paper), rows[::-1])
            if end != start:
                self.assertIsNone(library.path(heads[start], heads[end]))

    def test_a_long_path(self):
        rows = [beacon(3, 4)]
        for at in range(2000):
            rows.append(cite(rows[-1], body=(at,)))
        library, _ = self.library_of([(row, []) for row in rows])
        paper = library.path(rows[0], rows[-1])
        self.assertEqual(rows_of(paper), rows)
        self.assertIsNone(library.path(rows[-1], rows[0]))

    def test_many_paths_of_one_length(self):
        # Two documents at each stage, each of which cites both before: 2 ** 60 shortest paths.
        rows = [beacon(3, 4)]
        stage = [rows[0]]
        least = []
        for _ in range(60):
            stage = [cite(*stage, body=(2,)), cite(*stage, body=(1,))]
            rows += stage
            least.append(stage[1])
        end = cite(*stage)
        found = self.path_of_rows(rows + [end], rows[0], end)
        expected = [(row, ("cite", 1 if at else 0)) for at, row in enumerate([*least, end])]
        self.assertEqual(found, expected)

    def test_the_library_stays_as_it_was(self):
        stone = beacon(3, 4)
        entries = [told(stone), 71]
        row = self.head_of(entries)
        library, _ = self.library_of([(row, entries), (stone, [])])
        for _ in range(2):
            self.assertEqual(library.path(stone, row).steps, [(row, ("entry", 0, (71,)))])
            self.assertIsNone(library.path(row, stone))
            self.assertEqual(library.rows(), [row, stone])
            self.assertEqual(library.entries_of(told(row)), entries)
            self.assertEqual(library.gaps(), [(told(row), 71)])


class AllPathsTest(PathCase):
    def add_up(self, found):
        return {name: sum(counts[name] for counts in found) for name in found[0]}

    def test_worlds_under_a_wide_bound(self):
        found = []
        for seed in range(12):
            things = World(BOUND, FACTOR, seed, 24).things
            found.append(self.check_all(BOUND, FACTOR, things))
        for many in self.add_up(found).values():
            self.assertGreater(many, 20)

    def test_worlds_with_gaps(self):
        found = []
        for seed in range(12, 20):
            things = World(BOUND, FACTOR, seed, 30).things[::-1]
            known = [thing for at, thing in enumerate(things) if at % 3]
            found.append(self.check_all(BOUND, FACTOR, known))
        self.assertGreater(self.add_up(found)["long"], 0)

    def test_worlds_under_small_bounds(self):
        # A digest that is held is then often that of another row than the one that was meant.
        for bound, factor in ((6, 5), (12, 48271), (40, 7)):
            found = []
            for seed in range(8):
                things = World(bound, factor, seed, 60).things
                found.append(self.check_all(bound, factor, things))
            for many in self.add_up(found).values():
                self.assertGreater(many, 0)

    def test_a_digest_of_another_row(self):
        bound, factor = 7, 48271
        meant = beacon(3, 4)
        digest = plain_digest(bound, factor, meant)
        other = next(beacon(9, value) for value in range(50)
                     if plain_digest(bound, factor, beacon(9, value)) == digest)
        letter = next(document([digest], [body]) for body in range(50)
                      if plain_digest(bound, factor, document([digest], [body])) != digest)
        library, _ = self.library_of([(other, []), (letter, [])], Mixing(bound, factor))
        self.assertEqual(library.put(meant, []), (other, meant))
        self.assertEqual(library.path(other, letter).steps, [(letter, ("cite", 0))])

    def test_a_thing_that_holds_its_own_digest(self):
        bound, factor = 3, 7
        loops = [document([held], [body]) for held in range(3) for body in range(9)
                 if plain_digest(bound, factor, document([held], [body])) == held]
        self.assertGreater(len(loops), 3)
        for row in loops:
            library, _ = self.library_of([(row, [])], Mixing(bound, factor))
            paper = library.path(row, row)
            self.assertEqual((paper.first, paper.steps), (row, []))
            self.assertIs(library.is_closed(), True)

    def test_things_that_hold_one_another(self):
        # Documents that cite all digests of a small bound: whatever is known holds the rest.
        bound, factor = 4, 11
        things = [(document([0, 1, 2, 3], [body]), []) for body in range(30)]
        library, taken = self.library_of(things, Mixing(bound, factor))
        self.assertEqual(len(taken), 4)
        for start, end in itertools.permutations(library.rows(), 2):
            place = ("cite", plain_digest(bound, factor, start))
            self.assertEqual(library.path(start, end).steps, [(end, place)])


if __name__ == "__main__":
    unittest.main()
