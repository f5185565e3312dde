"""Stories for the tests: two services that enter documents, beacons and heads of one another."""

import random

from sealround.digests import Mixing
from sealround.journals import mended
from sealround.services import Service
from tests.plain import plain_digest


class Story:
    """What came to be hour by hour, with the entries of heads and the rounds of what was entered."""

    def __init__(self, bound, factor, seed, hours, falls=False):
        self.bound = bound
        self.factor = factor
        self.mixing = Mixing(bound, factor)
        self.chance = random.Random(seed)
        # Whether a service falls is decided apart, so that nothing else depends on it.
        self.falling = random.Random(seed + 1)
        self.falls = falls
        self.services = {name: Service(name, self.mixing) for name in (1, 2)}
        self.things = []
        self.hours = {}
        self.entered = []
        for hour in range(10, 10 + hours):
            self.live(hour)

    def digest(self, row):
        return plain_digest(self.bound, self.factor, row)

    def came_to_be(self, row, entries, hour):
        if row not in self.hours:
            self.hours[row] = hour
            self.things.append((row, entries))

    def live(self, hour):
        """One hour: some things are made and entered, and perhaps a round is closed."""
        if self.chance.random() < 0.4:
            self.came_to_be((1, hour, self.chance.randrange(1000)), [], hour)
        for name in (1, 2):
            if self.chance.random() < 0.6:
                self.enter(name, self.new_document(hour))
            if self.things and self.chance.random() < 0.3:
                self.enter(name, self.some_thing())
            heads = [row for row, _ in self.things if row[:2] == (4, 3 - name)]
            if heads and self.chance.random() < 0.3:
                self.enter(name, heads[-1])
            self.perhaps_fall(name)
            if self.chance.random() < 0.4 and self.services[name].entries(self.services[name].rounds()):
                self.close(name, hour)

    def some_thing(self):
        return self.chance.choice(self.things[-6:])[0]

    def new_document(self, hour):
        """A document that cites some things that are there."""
        cited = [self.some_thing() for _ in range(self.chance.randrange(3)) if self.things]
        row = (2, len(cited), *[self.digest(thing) for thing in cited], self.chance.randrange(1000))
        self.came_to_be(row, [], hour)
        return row

    def enter(self, name, row):
        service = self.services[name]
        number = service.rounds()
        index = service.enter(self.digest(row))
        self.entered.append((name, row, number, index))

    def close(self, name, hour):
        service = self.services[name]
        entries = service.entries(service.rounds())
        self.came_to_be(service.close(hour), entries, hour)

    def perhaps_fall(self, name):
        """The service is mended from its journal, of which a number too much may be written."""
        if self.falls and self.falling.random() < 0.3:
            journal = self.services[name].journal() + (1,) * self.falling.randrange(2)
            self.services[name] = mended(name, self.mixing, journal)

    def end(self):
        """All rounds are closed, so that each thing that was entered has a head."""
        for name, service in self.services.items():
            if service.entries(service.rounds()):
                self.close(name, 1000)
        return self
