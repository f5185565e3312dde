"""Worlds of things for the tests: beacons, documents, renewals and heads that hold one another."""

import random

from tests.plain import plain_back_rounds, plain_digest, plain_root
from tests.plain_papers import plain_link, plain_places


class World:
    """Things made by chance, each with the entries of its round, and the links between them."""

    def __init__(self, bound, factor, seed, many):
        self.bound = bound
        self.factor = factor
        self.chance = random.Random(seed)
        self.things = []
        self.heads = {1: [], 2: []}
        while len(self.things) < many:
            thing = self.thing()
            if thing not in self.things:
                self.things.append(thing)

    def digest(self, row):
        return plain_digest(self.bound, self.factor, row)

    def some_digest(self):
        """Mostly that of a thing, of the late ones more often."""
        if self.things and self.chance.random() < 0.9:
            low = self.chance.choice((0, 0, max(0, len(self.things) - 4)))
            return self.digest(self.chance.choice(self.things[low:])[0])
        return self.chance.randrange(self.bound)

    def some_digests(self, least, most):
        return [self.some_digest() for _ in range(self.chance.randint(least, most))]

    def thing(self):
        """A new thing and its entries."""
        kind = self.chance.choice((1, 2, 2, 4, 4, 4, 4, 4, 5))
        if kind == 1:
            return (1, self.chance.randrange(50), self.chance.randrange(9)), []
        if kind == 2:
            cites = self.some_digests(0, 3)
            return (2, len(cites), *cites, *self.some_digests(0, 1)), []
        if kind == 4:
            return self.head()
        return (5, self.some_digest()), []

    def head(self):
        """The head of the next round of a service, sometimes with something wrong in it."""
        service = self.chance.choice((1, 2))
        heads = self.heads[service]
        number = len(heads)
        backs = [self.digest(heads[back]) for back in plain_back_rounds(number)]
        hour = heads[-1][3] + self.chance.choice((0, 1, 1, 1, 2)) if heads else 7
        if backs and self.chance.random() < 0.2:
            backs[self.chance.randrange(len(backs))] = self.some_digest()
        entries = self.some_digests(1, 5)
        if backs and self.chance.random() < 0.2:
            # A head that is held twice, or at an entry alone if it is no link at the back place.
            entries.append(backs[0])
        root = plain_root(self.bound, self.factor, entries)
        row = (4, service, number, hour, len(entries), root, *backs)
        heads.append(row)
        return row, entries

    def links(self):
        """All links between the things: a dict from the row before to its pairs (row, place)."""
        return self.links_among(self.things)

    def links_among(self, things):
        """The links between some things alone."""
        found = {row: [] for row, _ in things}
        for row, entries in things:
            for place, held in plain_places(self.bound, self.factor, row, entries):
                for before in found:
                    if held == self.digest(before):
                        if plain_link(self.bound, self.factor, before, row, place):
                            found[before].append((row, place))
        return found

    def walk(self, links, most):
        """A first row and steps, at the most so many, by links that are taken by chance."""
        first = row = self.chance.choice(list(links))
        steps = []
        while len(steps) < most and links[row]:
            steps.append(self.chance.choice(links[row]))
            row = steps[-1][0]
        return first, steps
