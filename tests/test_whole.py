import collections
import itertools
import random
import unittest

from sealround.digests import Mixing, is_clash
from sealround.errors import WitnessError
from sealround.journals import mended
from sealround.judges import both, confirmed, is_orderly
from sealround.libraries import Library
from sealround.notebooks import Notebook, foretold, window
from sealround.papers import Paper, is_accepted, joined, rows_of
from sealround.quarrels import evidence
from sealround.services import Service
from sealround.traces import trace
from sealround.witnesses import Witness
from sealround.written import paper_of, written
from tests.pasts import plain_way_back
from tests.plain import plain_digest
from tests.plain_papers import plain_link, plain_places
from tests.stories import Story
from tests.wide import BOUND, FACTOR


def links_of(story):
    """The pairs of rows of which the first one lies ahead of the second one by one link."""
    marks = collections.defaultdict(list)
    for row, _ in story.things:
        marks[story.digest(row)].append(row)
    found = set()
    for row, entries in story.things:
        for place, held in plain_places(story.bound, story.factor, row, entries):
            for before in marks[held]:
                if plain_link(story.bound, story.factor, before, row, place):
                    found.add((before, row))
    return found


def reached_of(story):
    """For each row the rows that links lead to, itself included."""
    links = links_of(story)
    reached = {}
    for row, _ in story.things[::-1]:
        # In a story whatever holds a thing came to be behind it.
        reached[row] = {row}.union(*[reached[later] for before, later in links if before == row])
    return reached


class StoryCase(unittest.TestCase):
    def library_of(self, story, things=None):
        """A library of the things, or None if a put tells a clash, which is looked at."""
        library = Library(story.mixing)
        for row, entries in story.things if things is None else things:
            told = library.put(row, entries)
            if told is not None:
                self.assertIs(type(told), tuple)
                self.assertIs(is_clash(story.mixing, *told), True)
                return None
        return library


class ServicesTest(StoryCase):
    def test_stamps_and_papers_back_lead_to_every_later_head(self):
        for bound, factor in ((BOUND, FACTOR), (7, 48271)):
            for seed in range(4):
                story = Story(bound, factor, seed, 40).end()
                self.assertGreater(len(story.entered), 40)
                for name, row, number, index in story.entered:
                    self.check_entered(story, story.services[name], row, number, index)

    def check_entered(self, story, service, row, number, index):
        stamp = service.stamp(row, number, index)
        self.assertIs(is_accepted(story.mixing, stamp), True)
        for later in range(number, service.rounds()):
            back = service.back(later, number)
            self.assertIs(is_accepted(story.mixing, back), True)
            paper = joined(stamp, back)
            self.assertIs(is_accepted(story.mixing, paper), True)
            rows = rows_of(paper)
            self.assertEqual((rows[0], rows[-1]), (row, service.head(later)))
            words = [place[0] for _, place in paper.steps]
            self.assertEqual(words, ["entry"] + ["back"] * (len(plain_way_back(later, number)) - 1))

    def test_services_that_fall_change_nothing(self):
        for bound, factor in ((BOUND, FACTOR), (7, 48271)):
            for seed in range(6):
                steady = Story(bound, factor, seed, 30).end()
                fallen = Story(bound, factor, seed, 30, falls=True).end()
                self.assertEqual(fallen.things, steady.things)
                self.assertEqual(fallen.entered, steady.entered)
                for name in (1, 2):
                    self.assertIsNot(fallen.services[name], steady.services[name])
                    journals = [story.services[name].journal() for story in (fallen, steady)]
                    self.assertEqual(*journals)
                for name, row, number, index in steady.entered:
                    self.check_entered(fallen, fallen.services[name], row, number, index)


class LibraryTest(StoryCase):
    """Libraries of all that a story tells, as long as no put tells a clash."""

    def stories(self):
        """Stories, with a library each, whose things were put in by the hours or in another order."""
        for bound, factor in ((BOUND, FACTOR), (10 ** 6, 48271)):
            for seed in range(4):
                story = Story(bound, factor, seed, 18, falls=seed % 2 == 1).end()
                mixed = random.Random(seed).sample(story.things, len(story.things))
                for things in (story.things, mixed):
                    library = self.library_of(story, things)
                    if library is not None:
                        yield story, library

    def test_it_is_closed(self):
        libraries = [library for _, library in self.stories()]
        for library in libraries:
            self.assertEqual(library.gaps(), [])
            self.assertIs(library.is_closed(), True)
        self.assertGreater(len(libraries), 12)

    def test_without_one_thing_it_has_gaps_just_where_that_is_held(self):
        for story, _ in list(self.stories())[::4]:
            for left_out, _ in story.things[::3]:
                things = [thing for thing in story.things if thing[0] != left_out]
                library = self.library_of(story, things)
                mark = story.digest(left_out)
                expected = [(story.digest(row), held) for row, entries in things
                            for _, held in plain_places(story.bound, story.factor, row, entries)
                            if held == mark]
                self.assertEqual(library.gaps(), expected)
                self.assertIs(library.is_closed(), expected == [])

    def test_paths_of_what_was_entered(self):
        for story, library in self.stories():
            for name, row, number, _ in story.entered:
                service = story.services[name]
                for later in range(number, service.rounds()):
                    self.check_path(story, library, row, service.head(later))

    def check_path(self, story, library, start, end):
        """There is a path, accepted, traced as known, and the same when written and read again."""
        paper = library.path(start, end)
        self.assertIs(type(paper), Paper)
        rows = rows_of(paper)
        self.assertEqual((rows[0], rows[-1]), (start, end))
        self.assertIs(is_accepted(story.mixing, paper), True)
        self.assertEqual(trace(library, paper), ("known",))
        again = paper_of(written(paper))
        self.assertEqual((again.first, again.steps), (paper.first, paper.steps))
        return paper

    def test_every_order_that_links_carry_has_a_path(self):
        for story, library in list(self.stories())[::3]:
            reached = reached_of(story)
            order = {row: at for at, (row, _) in enumerate(story.things)}
            for start, end in itertools.product(order, repeat=2):
                if end not in reached[start]:
                    self.assertIsNone(library.path(start, end))
                    continue
                paper = self.check_path(story, library, start, end)
                places = [order[row] for row in rows_of(paper)]
                self.assertEqual(places, sorted(set(places)))
                self.assertLessEqual(story.hours[start], story.hours[end])

    def test_stamps_and_papers_back_are_traced_as_known(self):
        for story, library in self.stories():
            for name, row, number, index in story.entered:
                service = story.services[name]
                stamp = service.stamp(row, number, index)
                for later in range(number, service.rounds()):
                    paper = joined(stamp, service.back(later, number))
                    self.assertEqual(trace(library, paper), ("known",))

    def test_a_forged_first_row_is_found(self):
        for story, library in self.stories():
            for name, row, number, index in story.entered:
                stamp = story.services[name].stamp(row, number, index)
                # The number is greater by what the digest is reckoned with: a clash by hand.
                forged = Paper(row[:-1] + (row[-1] + 2 ** 61 - 1,), stamp.steps)
                if is_accepted(story.mixing, forged):
                    self.assertEqual(trace(library, forged), ("clash", row, forged.first))

    def test_windows_hold_the_hours(self):
        for story, library in list(self.stories())[::3]:
            notebook = Notebook(story.mixing)
            seen = {}
            hour = 0
            for row, _ in story.things:
                if row[0] == 1:
                    notebook.note(row)
                elif row[0] == 4:
                    hour = max(hour, story.hours[row]) + random.Random(row[3]).randrange(2)
                    notebook.see(row, hour)
                    seen[row] = hour
            reached = reached_of(story)
            for row, _ in story.things:
                self.check_window(story, library, notebook, seen, reached, row)

    def check_window(self, story, library, notebook, seen, reached, row):
        beacons = [other for other, _ in story.things if other[0] == 1]
        papers = [library.path(other, row) for other in beacons]
        papers += [library.path(row, other) for other in seen]
        papers = [paper for paper in papers if paper is not None]
        lower, upper = window(notebook, row, papers)
        hours = [other[1] for other in beacons if row in reached[other]]
        self.assertEqual(lower, max(hours, default=None))
        self.assertEqual(upper, min([seen[other] for other in seen if other in reached[row]], default=None))
        self.assertLessEqual(lower or 0, story.hours[row])
        if upper is not None:
            self.assertLessEqual(story.hours[row], upper)
        self.assertIsNone(foretold(notebook, row, papers))


class ClashTest(StoryCase):
    def test_a_put_that_tells_a_clash(self):
        found = {True: 0, False: 0}
        for bound, factor in ((3, 5), (40, 48271), (1000, 48271)):
            for seed in range(10):
                story = Story(bound, factor, seed, 12).end()
                library = self.library_of(story)
                found[library is None] += 1
                if library is not None:
                    self.assertIs(library.is_closed(), True)
        self.assertGreater(found[True], 10)
        self.assertGreater(found[False], 2)

    def test_what_a_small_library_says_of_papers_of_the_services(self):
        met = collections.Counter()
        for bound, factor in ((3, 5), (40, 48271)):
            for seed in range(6):
                story = Story(bound, factor, seed, 20).end()
                library = Library(story.mixing)
                for row, entries in story.things:
                    library.put(row, entries)
                for name, row, number, index in story.entered:
                    service = story.services[name]
                    for later in range(number, service.rounds()):
                        paper = joined(service.stamp(row, number, index), service.back(later, number))
                        if service.head(later) in library.rows():
                            met[self.check_trace(story, library, paper)] += 1
        for word in ("known", "clash"):
            self.assertGreater(met[word], 20)

    def check_trace(self, story, library, paper):
        found = trace(library, paper)
        if found[0] == "known":
            self.assertLessEqual(set(rows_of(paper)), set(library.rows()))
        elif found[0] == "clash":
            self.assertIs(is_clash(story.mixing, *found[1:]), True)
        else:
            self.assertIs(library.is_closed(), False)
            rows = rows_of(paper)
            marks = [story.digest(rows[found[1]]), story.digest(rows[found[1] - 1])]
            self.assertIn(tuple(marks), library.gaps())
        return found[0]


class TwoPastsTest(unittest.TestCase):
    """A service that leads two pasts from one round on, and witnesses that keep the rules."""

    ROUNDS = 14

    def begin(self, bound, factor, seed):
        self.chance = random.Random(seed)
        self.mixing = Mixing(bound, factor)
        self.forked = self.chance.randrange(self.ROUNDS - 3)
        shared = Service(9, self.mixing)
        self.go_on(shared, self.forked)
        # The service is mended twice from one journal, and each one goes on in its own way.
        self.pasts = [mended(9, self.mixing, shared.journal()) for _ in range(2)]
        for past in self.pasts:
            self.go_on(past, self.ROUNDS)

    def go_on(self, service, rounds):
        while service.rounds() < rounds:
            for _ in range(self.chance.randint(1, 3)):
                service.enter(self.chance.randrange(self.mixing.bound))
            service.close(10 * service.rounds() + self.chance.randrange(10))

    def marks(self, number):
        """The digests of the heads of a round in both pasts."""
        bound, factor = self.mixing.bound, self.mixing.factor
        return [plain_digest(bound, factor, past.head(number)) for past in self.pasts]

    def are_two(self):
        """Whether the heads of all rounds from the fork on are different in the two pasts."""
        pairs = [[past.head(number) for past in self.pasts] for number in range(self.forked, self.ROUNDS)]
        return all(one != two for one, two in pairs)

    def test_evidence_is_a_fork_of_that_round_or_a_clash(self):
        for bound, factor, expected in ((BOUND, FACTOR, {"fork"}), (6, 5, {"fork", "clash"})):
            met = collections.Counter()
            for seed in range(60):
                self.begin(bound, factor, seed)
                if self.are_two():
                    self.check_evidence(met)
            self.assertEqual(set(met), expected)
            self.assertGreater(min(met.values()), 50)

    def check_evidence(self, met):
        for later, end in itertools.product((self.forked, self.forked + 1, self.ROUNDS - 1), range(2)):
            start = self.forked - min(self.forked, 2 * end)
            papers = [joined(past.back(self.forked, start), past.back(later, self.forked))
                      for past in self.pasts]
            for one, two in ((0, 1), (1, 0)):
                found = evidence(self.mixing, papers[one], papers[two])
                if found[0] == "fork":
                    marks = self.marks(self.forked)
                    self.assertEqual(found, ("fork", 9, self.forked, marks[one], marks[two]))
                else:
                    self.assertIs(is_clash(self.mixing, *found[1:]), True)
                met[found[0]] += 1

    def ask(self, witness, past, number):
        """Shows a head with the paper that is right in its past; whether it is signed."""
        last = witness.last(9)
        paper = None if last is None else past.back(number, min(number, last[2]))
        try:
            witness.sign(past.head(number), paper, past.head(number)[3])
        except WitnessError as error:
            return error.reason
        return "signed"

    def books(self, many, met):
        """The books of witnesses, each shown the heads of either past, round by round."""
        books = []
        for _ in range(many):
            witness = Witness(self.mixing, 5)
            for number in range(self.ROUNDS):
                for past in self.chance.sample(self.pasts, self.chance.randrange(3)):
                    met[self.ask(witness, past, number)] += 1
            books.append(witness.book())
            self.assertIs(is_orderly(books[-1]), True)
        return books

    def test_the_heads_are_never_both_confirmed(self):
        for bound, factor in ((BOUND, FACTOR), (6, 5)):
            met = collections.Counter()
            for seed in range(80):
                self.begin(bound, factor, seed)
                many = self.chance.randint(1, 7)
                books = self.books(many, met)
                for number in range(self.forked, self.ROUNDS):
                    one, two = self.marks(number)
                    if one != two:
                        self.check_books(books, number, one, two, met)
            for word in ("signed", "no paper", "not later", "confirmed", "one of two"):
                self.assertGreater(met[word], 20, word)

    def check_books(self, books, number, one, two, met):
        self.assertEqual(both(books, 9, number, one, two), [])
        for needed in range(len(books) // 2 + 1, len(books) + 2):
            found = [confirmed(books, needed, 9, number, mark) for mark in (one, two)]
            self.assertNotEqual(found, [True, True])
            met["confirmed"] += any(found)
        having = [confirmed(books, 1, 9, number, mark) for mark in (one, two)]
        met["one of two"] += having == [True, True]


if __name__ == "__main__":
    unittest.main()
