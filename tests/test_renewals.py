import collections
import itertools
import random
import unittest

from sealround.digests import Mixing
from sealround.errors import ChainError
from sealround.notebooks import Notebook
from sealround.papers import Paper, is_accepted
from sealround.renewals import chain_row, standing
from sealround.things import beacon, document, renewal
from tests.pasts import Past
from tests.plain import PRIME, plain_digest
from tests.plain_papers import plain_fault, plain_is_thing, plain_paper_row

# The bounds and factors of three mixings, each at its place.
WIDE = ((2 ** 64, 1234567), (2 ** 61 - 1, 48271), (10 ** 18, 99))
GREAT = 2 ** 70

NOTHING = "nothing"
NOT_ACCEPTED = "not accepted"
ANOTHER_CHAIN = "another chain"
NOT_SEEN = "not seen"
HOURS_FALL = "hours fall"
TOO_LATE = "too late"
BROKEN = "broken"


def plain_chain_row(chain):
    """The row of a chain, put together piece by piece."""
    pieces = [(len(chain),)]
    for place, paper in chain:
        row = plain_paper_row(paper.first, paper.steps)
        pieces.append((place, len(row)) + row)
    return sum(pieces, ())


def plain_standing(mixings, sights, breaks, chain, now):
    """The hour of the chain, or the index of a link and the reason; sights are dicts of hours."""
    if chain == []:
        return 0, NOTHING
    hours = []
    for index, (place, paper) in enumerate(chain):
        bound, factor = mixings[place]
        rows = [paper.first] + [row for row, _ in paper.steps]
        if plain_fault(bound, factor, paper.first, paper.steps):
            return index, NOT_ACCEPTED
        elder = plain_digest(bound, factor, plain_chain_row(chain[:index]))
        if index and rows[0] != (5, elder):
            return index, ANOTHER_CHAIN
        if rows[-1] not in sights[place]:
            return index, NOT_SEEN
        hours.append(sights[place][rows[-1]])
        if index and hours[-1] < hours[-2]:
            return index, HOURS_FALL
        if index and is_over(breaks[chain[index - 1][0]], hours[-1]):
            return index, TOO_LATE
        if index + 1 == len(chain) and is_over(breaks[place], now):
            return index, BROKEN
    return hours[0]


def is_over(broken, hour):
    """Whether a mixing that breaks at an hour, or never, is broken at another hour."""
    return False if broken is None else hour >= broken


def link(mixings, elder, place, first, more=0):
    """A link that renews the elder ones, or begins a chain with a row; its paper has 1 + more steps."""
    bound, factor = mixings[place]
    if elder:
        first = (5, plain_digest(bound, factor, plain_chain_row(elder)))
    past = Past(bound, factor, 9)
    past.close(5, [1, plain_digest(bound, factor, first), 2 + len(elder)])
    for number in range(more):
        past.close(6 + number, [7])
    stamped, steps = past.stamp(first, 0, 1)
    return place, Paper(stamped, steps + past.back(more, 0)[1])


def last_row(paper):
    return paper.steps[-1][0] if paper.steps else paper.first


def chain_of(mixings, places, first=(2, 0, 7, 8)):
    """A chain that renews a paper at each of these places."""
    chain = []
    for place in places:
        chain.append(link(mixings, chain, place, first, len(chain) % 3))
    return chain


class ChainCase(unittest.TestCase):
    MIXINGS = WIDE

    def notebooks_of(self, sights):
        """A notebook for each place, with the heads and the hours at which they were seen."""
        notebooks = []
        for (bound, factor), seen in zip(self.MIXINGS, sights):
            notebook = Notebook(Mixing(bound, factor))
            for row, hour in sorted(seen.items(), key=lambda sight: sight[1]):
                notebook.see(row, hour)
            notebooks.append(notebook)
        return notebooks

    def sights_of(self, chain, hours):
        """The heads of the links, each seen at its hour; with None it is not seen."""
        sights = [{} for _ in self.MIXINGS]
        for (place, paper), hour in zip(chain, hours):
            row = last_row(paper)
            if hour is not None and plain_is_thing(row) and row[0] == 4:
                sights[place].setdefault(row, hour)
        return sights

    def ask(self, sights, breaks, chain, now):
        """The hour of the chain, or the index of the link and the reason."""
        notebooks = self.notebooks_of(sights)
        shown = [(place, paper.first, list(paper.steps)) for place, paper in chain]
        listed, breaking = list(chain), list(breaks)
        try:
            found = standing(notebooks, breaks, chain, now)
        except ChainError as error:
            found = (error.link, error.reason)
        self.assertEqual((chain, breaks), (listed, breaking))
        self.assertEqual([(place, paper.first, paper.steps) for place, paper in chain], shown)
        self.assertEqual(found, plain_standing(self.MIXINGS, sights, breaks, chain, now))
        return found


class ChainRowTest(unittest.TestCase):
    def test_by_hand(self):
        self.assertEqual(chain_row([]), (0,))
        paper = Paper((1, 3, 4), [])
        self.assertEqual(chain_row([(7, paper)]), (1, 7, 5, 3, 1, 3, 4, 0))
        other = Paper((9,), [((7, 8), ("entry", 4, (30, 20)))])
        expected = (2, 7, 5, 3, 1, 3, 4, 0, 0, 11, 1, 9, 1, 2, 7, 8, 2, 4, 2, 30, 20)
        self.assertEqual(chain_row([(7, paper), (0, other)]), expected)
        self.assertEqual(chain_row([(GREAT, Paper((), []))]), (1, GREAT, 2, 0, 0))
        self.assertIs(type(chain_row([])), tuple)

    def test_second_computation(self):
        for many in range(6):
            for places in itertools.product(range(2), repeat=many):
                chain = chain_of(WIDE, places)
                listed = list(chain)
                self.assertEqual(chain_row(chain), plain_chain_row(chain))
                self.assertEqual(chain, listed)

    def test_rows_that_are_no_things(self):
        papers = [Paper((), []), Paper((3, 1), [((), ("cite", 5)), ((6,), ("back", 4))])]
        for chain in itertools.product(enumerate(papers), repeat=2):
            self.assertEqual(chain_row(list(chain)), plain_chain_row(chain))


class ByHandTest(ChainCase):
    """A chain of three links at the places 0, 1 and 2, whose heads are seen at 50, 90 and 150."""

    def setUp(self):
        self.chain = chain_of(WIDE, [0, 1, 2])
        self.hours = [50, 90, 150]
        self.breaks = [100, 200, 300]

    def told_of(self, chain=None, hours=None, breaks=None, now=160):
        chain = self.chain if chain is None else chain
        sights = self.sights_of(chain, hours or self.hours)
        return self.ask(sights, breaks or self.breaks, chain, now)

    def with_link(self, index, other):
        """The chain with another link there, and the elder and later ones as they were."""
        return self.chain[:index] + [other] + self.chain[index + 1:]

    def not_accepted(self, index):
        place, paper = self.chain[index]
        row, (word, at, way) = paper.steps[0]
        return place, Paper(paper.first, [(row, (word, at + 1, way)), *paper.steps[1:]])

    def another_chain(self, index):
        return link(WIDE, [], self.chain[index][0], (2, 0, 99))

    def test_it_stands(self):
        self.assertEqual(self.told_of(), 50)
        self.assertEqual(self.told_of(self.chain[:2]), 50)
        self.assertEqual(self.told_of(self.chain[:1], now=99), 50)

    def test_nothing(self):
        self.assertEqual(self.told_of([]), (0, NOTHING))
        with self.assertRaises(ChainError):
            standing([], [], [], 0)

    def test_not_accepted(self):
        for index in range(3):
            for paper in (
                self.not_accepted(index)[1],
                Paper((3, 1, 2), []),
                Paper((), self.chain[index][1].steps),
                Paper(beacon(3, 4), self.chain[index][1].steps),
            ):
                chain = self.with_link(index, (self.chain[index][0], paper))
                self.assertEqual(self.told_of(chain), (index, NOT_ACCEPTED))

    def test_a_paper_for_the_mixing_of_another_place(self):
        for index, place in itertools.permutations(range(3), 2):
            chain = self.with_link(index, (place, self.chain[index][1]))
            self.assertEqual(self.told_of(chain), (index, NOT_ACCEPTED))

    def test_another_chain(self):
        for index in (1, 2):
            chain = self.with_link(index, self.another_chain(index))
            self.assertEqual(self.told_of(chain), (index, ANOTHER_CHAIN))
            mark = self.chain[index][1].first[1]
            for first in (renewal(mark + 1), document([mark], []), renewal(mark + PRIME), (1, 5, mark)):
                chain = self.with_link(index, link(WIDE, [], index, first))
                self.assertEqual(self.told_of(chain), (index, ANOTHER_CHAIN))

    def test_the_first_link_may_begin_with_any_thing(self):
        for first in (renewal(0), beacon(3, 4), document([7], [8]), (4, 9, 0, 5, 1, 7)):
            self.assertEqual(self.told_of(chain_of(WIDE, [0, 1, 2], first)), 50)

    def test_the_digest_of_the_elder_links_is_of_the_mixing_of_the_link(self):
        for index in (1, 2):
            for place in range(3):
                elder = self.chain[:index]
                mark = plain_digest(*WIDE[place], plain_chain_row(elder))
                chain = elder + [link(WIDE, [], index, renewal(mark))]
                hours = self.hours[:index + 1]
                expected = 50 if place == index else (index, ANOTHER_CHAIN)
                self.assertEqual(self.told_of(chain, hours), expected)

    def test_a_chain_that_leaves_links_out_or_turns_them_round(self):
        one, two, three = self.chain
        for chain, found in (
            ([two, three], (1, ANOTHER_CHAIN)),
            ([one, three], (1, ANOTHER_CHAIN)),
            ([one, two, two], (2, ANOTHER_CHAIN)),
            ([one, one], (1, ANOTHER_CHAIN)),
            ([two, one], (1, ANOTHER_CHAIN)),
            ([one, three, two], (1, ANOTHER_CHAIN)),
        ):
            self.assertEqual(self.told_of(chain, [50, 60, 70]), found)
        self.assertEqual(self.told_of([two], [70]), 70)

    def test_not_seen(self):
        for index in range(3):
            hours = list(self.hours)
            hours[index] = None
            self.assertEqual(self.told_of(hours=hours), (index, NOT_SEEN))

    def test_a_head_that_the_notebook_of_another_place_has(self):
        sights = self.sights_of(self.chain, self.hours)
        for index in range(3):
            moved = [dict(seen) for seen in sights]
            moved[(index + 1) % 3].update(moved[index])
            moved[index].clear()
            self.assertEqual(self.ask(moved, self.breaks, self.chain, 160), (index, NOT_SEEN))

    def test_a_paper_that_ends_with_no_head(self):
        for first in (beacon(3, 4), document([], [7])):
            self.assertEqual(self.told_of([(0, Paper(first, []))], [None]), (0, NOT_SEEN))
        place, paper = self.chain[2]
        short = Paper(paper.first, [])
        self.assertEqual(self.told_of(self.with_link(2, (place, short)), [50, 90, None]), (2, NOT_SEEN))
        # A longer paper to a head that was not seen, and a shorter one to a head that was.
        longer = link(WIDE, self.chain[:2], 2, None, 5)
        sights = self.sights_of(self.chain, self.hours)
        found = self.ask(sights, self.breaks, self.with_link(2, longer), 160)
        self.assertEqual(found, (2, NOT_SEEN))

    def test_a_paper_without_steps_that_is_a_head(self):
        first = (4, 9, 0, 5, 1, 7)
        self.assertEqual(self.told_of([(0, Paper(first, []))], [50], now=99), 50)

    def test_hours_fall(self):
        self.assertEqual(self.told_of(hours=[50, 49, 150]), (1, HOURS_FALL))
        self.assertEqual(self.told_of(hours=[50, 90, 89]), (2, HOURS_FALL))
        self.assertEqual(self.told_of(hours=[50, 50, 50]), 50)
        self.assertEqual(self.told_of(hours=[50, 90, 60]), (2, HOURS_FALL))
        self.assertEqual(self.told_of(hours=[0, 0, 0]), 0)

    def test_too_late(self):
        for hour, found in ((99, 50), (100, (1, TOO_LATE)), (101, (1, TOO_LATE))):
            self.assertEqual(self.told_of(hours=[50, hour, 150]), found)
        for hour, found in ((199, 50), (200, (2, TOO_LATE)), (201, (2, TOO_LATE))):
            self.assertEqual(self.told_of(hours=[50, 90, hour], now=210), found)
        self.assertEqual(self.told_of(breaks=[None, None, 300], hours=[50, 900, 9000]), 50)
        self.assertEqual(self.told_of(breaks=[0, 200, 300]), (1, TOO_LATE))
        # The first link may come when its own mixing is broken: the next one is too late then.
        self.assertEqual(self.told_of(hours=[150, 160, 170]), (1, TOO_LATE))

    def test_broken(self):
        for now, found in ((0, 50), (299, 50), (300, (2, BROKEN)), (301, (2, BROKEN))):
            self.assertEqual(self.told_of(now=now), found)
        for now, found in ((99, 50), (100, (0, BROKEN)), (0, 50)):
            self.assertEqual(self.told_of(self.chain[:1], now=now), found)
        for now in (0, 300, GREAT):
            self.assertEqual(self.told_of(breaks=[100, 200, None], now=now), 50)
        self.assertEqual(self.told_of(breaks=[100, 200, 0], now=0), (2, BROKEN))
        # Only the mixing of the last link may not be broken now.
        self.assertEqual(self.told_of(now=250), 50)

    def test_the_last_link_may_be_seen_after_now(self):
        self.assertEqual(self.told_of(now=10), 50)

    def test_two_reasons_of_one_link(self):
        bad = self.not_accepted(2)
        other = self.another_chain(2)
        both = (2, Paper(other[1].first, bad[1].steps))
        chain = self.with_link(2, both)
        self.assertEqual(self.told_of(chain, [50, 90, None]), (2, NOT_ACCEPTED))
        chain = self.with_link(2, other)
        for hour in (None, 60, 250):
            self.assertEqual(self.told_of(chain, [50, 90, hour], now=400), (2, ANOTHER_CHAIN))
        self.assertEqual(self.told_of(hours=[50, 90, None], now=400), (2, NOT_SEEN))
        breaks = [100, 85, 300]
        self.assertEqual(self.told_of(hours=[50, 90, 89], breaks=breaks, now=400), (2, HOURS_FALL))
        self.assertEqual(self.told_of(hours=[50, 90, 90], breaks=breaks, now=400), (2, TOO_LATE))
        self.assertEqual(self.told_of(hours=[50, 90, 250], now=400), (2, TOO_LATE))

    def test_two_reasons_of_two_links(self):
        faults = {
            0: ([self.not_accepted(0)] + self.chain[1:], self.hours, NOT_ACCEPTED),
            1: (self.with_link(1, self.another_chain(1)), self.hours, ANOTHER_CHAIN),
        }
        for index, (chain, hours, reason) in faults.items():
            chain = chain[:2] + [self.not_accepted(2)]
            self.assertEqual(self.told_of(chain, hours, now=400), (index, reason))
        chain = self.chain[:2] + [self.not_accepted(2)]
        for hours, index, reason in (
            ([None, None, None], 0, NOT_SEEN),
            ([50, None, None], 1, NOT_SEEN),
            ([50, 40, None], 1, HOURS_FALL),
            ([50, 100, None], 1, TOO_LATE),
            ([50, 90, None], 2, NOT_ACCEPTED),
        ):
            self.assertEqual(self.told_of(chain, hours, now=400), (index, reason))

    def test_great_hours(self):
        hours = [GREAT, GREAT + 1, GREAT + 2]
        breaks = [GREAT + 2, GREAT + 3, GREAT + 4]
        self.assertEqual(self.told_of(hours=hours, breaks=breaks, now=GREAT + 3), GREAT)
        self.assertEqual(self.told_of(hours=hours, breaks=breaks, now=GREAT + 4), (2, BROKEN))


class RenewedInTimeTest(ChainCase):
    def test_it_stands_at_every_hour_ahead_of_the_last_break(self):
        breaks = [100, 200, 300]
        hours = [60, 99, 199]
        for many in (1, 2, 3):
            chain = chain_of(WIDE, range(many))
            self.assertIs(is_accepted(Mixing(*WIDE[many - 1]), chain[-1][1]), True)
            sights = self.sights_of(chain, hours)
            for now in range(0, 400, 3):
                expected = 60 if now < breaks[many - 1] else (many - 1, BROKEN)
                self.assertEqual(self.ask(sights, breaks, chain, now), expected)
            endless = breaks[:many - 1] + [None] * (4 - many)
            self.assertEqual(self.ask(sights, endless, chain, GREAT), 60)

    def test_renewed_at_the_break_or_later_it_never_stands_again(self):
        for late, more in itertools.product((1, 2), (0, 1, 50)):
            hours = [60, 99, 199]
            hours[late] = (100, 200)[late - 1] + more
            chain = chain_of(WIDE, range(3))
            sights = self.sights_of(chain, hours)
            for now in (0, 90, 150, 250, 350):
                self.assertEqual(self.ask(sights, [100, 200, None], chain, now), (late, TOO_LATE))
            again = chain_of(WIDE, [0, 1, 2, 2])
            sights = self.sights_of(again, [*hours, 260])
            self.assertEqual(self.ask(sights, [100, 200, None], again, 270), (late, TOO_LATE))

    def test_an_elder_link_that_is_changed(self):
        chain = chain_of(WIDE, [0, 1, 2, 0])
        breaks = [None] * 3
        for index in range(3):
            place, _ = chain[index]
            elder = chain[:index]
            changed = link(WIDE, elder, place, (2, 0, 7, 9), 4)
            forged = elder + [changed] + chain[index + 1:]
            sights = self.sights_of(forged, [10, 20, 30, 40])
            self.assertEqual(self.ask(sights, breaks, forged, 50), (index + 1, ANOTHER_CHAIN))

    def test_places_again_and_again(self):
        for places in ([0], [0, 0], [1, 0, 1, 0, 1], [2, 2, 2, 2, 2], [0, 1, 2, 1, 0]):
            chain = chain_of(WIDE, places)
            sights = self.sights_of(chain, range(20, 25))
            self.assertEqual(self.ask(sights, [None] * 3, chain, 99), 20)
            self.assertEqual(self.ask(sights, [90] * 3, chain, 89), 20)
            self.assertEqual(self.ask(sights, [90] * 3, chain, 90), (len(places) - 1, BROKEN))


class ChanceTest(ChainCase):
    def forged(self, chance, chain):
        """The chain with one thing wrong in it."""
        chain = list(chain)
        at = chance.randrange(len(chain))
        place, paper = chain[at]
        how = chance.randrange(4)
        if how == 0:
            chain[at] = (place, Paper(paper.first, paper.steps[1:]))
        elif how == 1:
            chain[at] = link(self.MIXINGS, [], place, (2, 0, chance.randrange(9)))
        elif how == 2:
            chain[at] = ((place + 1) % len(self.MIXINGS), paper)
        else:
            chain[at] = link(self.MIXINGS, chain[:at], place, (2, 0, 7), 3)
        return chain

    def check_chain(self, chance):
        many = chance.randint(1, 5)
        first = (2, 0, chance.randrange(1000))
        places = [chance.randrange(len(self.MIXINGS)) for _ in range(many)]
        chain = chain_of(self.MIXINGS, places, first)
        if chance.random() < 0.4:
            chain = self.forged(chance, chain)
        hours = []
        for index in range(many):
            hours.append(10 * index + chance.choice((0, 3, 9, 10, 10, 12)))
        if chance.random() < 0.2:
            hours[chance.randrange(many)] = None
        breaks = [chance.choice((None, None, chance.randrange(10, 80))) for _ in self.MIXINGS]
        now = chance.randrange(80)
        return self.ask(self.sights_of(chain, hours), breaks, chain, now)

    def check_mixings(self, mixings, seeds):
        self.MIXINGS = mixings
        met = collections.Counter()
        for seed in range(seeds):
            found = self.check_chain(random.Random(seed))
            met[found[1] if type(found) is tuple else "stands"] += 1
        return met

    def test_over_one_to_three_mixings(self):
        for many in (1, 2, 3):
            met = self.check_mixings(WIDE[:many], 1500)
            for reason in ("stands", ANOTHER_CHAIN, NOT_SEEN, HOURS_FALL, TOO_LATE, BROKEN):
                self.assertGreater(met[reason], 10, (many, reason))
            self.assertGreater(met[NOT_ACCEPTED], 10)

    def test_under_small_bounds(self):
        met = self.check_mixings(((3, 5), (7, 48271), (30, 7)), 1500)
        for reason in ("stands", ANOTHER_CHAIN, NOT_SEEN, HOURS_FALL, TOO_LATE, BROKEN, NOT_ACCEPTED):
            self.assertGreater(met[reason], 10, reason)


if __name__ == "__main__":
    unittest.main()
