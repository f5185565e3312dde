"""Pasts of services for the tests: heads and papers back, apart from the program."""

from tests.plain import plain_back_rounds, plain_digest, plain_root
from tests.plain_checks import plain_own_way


class Past:
    """The closed rounds of a service that keeps the rules."""

    def __init__(self, bound, factor, service):
        self.bound = bound
        self.factor = factor
        self.service = service
        self.heads = []
        self.entries = []

    def digest(self, row):
        return plain_digest(self.bound, self.factor, row)

    def close(self, hour, entries):
        """Closes a round with these entries; returns its head."""
        number = len(self.heads)
        backs = [self.digest(self.heads[back]) for back in plain_back_rounds(number)]
        root = plain_root(self.bound, self.factor, entries)
        row = (4, self.service, number, hour, len(entries), root, *backs)
        self.heads.append(row)
        self.entries.append(list(entries))
        return row

    def branch(self, number):
        """Another past that has the same rounds ahead of this one."""
        other = Past(self.bound, self.factor, self.service)
        other.heads = self.heads[:number]
        other.entries = self.entries[:number]
        return other

    def stamp(self, row, number, index):
        """The first row and the steps of the stamp of a row."""
        way = plain_own_way(self.bound, self.factor, self.entries[number], index)
        return row, [(self.heads[number], ("entry", index, way))]

    def back(self, start, end):
        """The first row and the steps of the paper back from a round to an earlier one."""
        rounds = plain_way_back(start, end)[::-1]
        steps = []
        for earlier, later in zip(rounds, rounds[1:]):
            index = plain_back_rounds(later).index(earlier)
            steps.append((self.heads[later], ("back", index)))
        return self.heads[end], steps


def plain_way_back(start, end):
    """The shortest way back: the first one that a search meets, going back round by round."""
    ways = {start: [start]}
    level = [start]
    while end not in ways:
        found = []
        for number in level:
            for back in plain_back_rounds(number):
                if back >= end and back not in ways:
                    ways[back] = ways[number] + [back]
                    found.append(back)
        level = found
    return ways[end]
