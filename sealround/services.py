"""Services, which collect digests in rounds and close each round with a head."""

from sealround.errors import ServiceError
from sealround.links import BACK, ENTRY
from sealround.marks import digest_of
from sealround.papers import Paper
from sealround.things import back_rounds, head, way_back
from sealround.trees import root_of, way_of

# The numbers that tell deeds in a journal.
ENTERING = 1
CLOSING = 2


class Service:
    """Closed rounds, each with a head, and an open one."""

    def __init__(self, name, mixing):
        self.name = name
        self.mixing = mixing
        self._heads = []
        # The lists of the entries of all rounds; the open round stands last.
        self._entries = [[]]
        self._deeds = []

    def enter(self, digest):
        """Enters a digest into the open round, and returns its index there."""
        entries = self._entries[-1]
        entries.append(digest)
        self._deeds.extend([ENTERING, digest])
        return len(entries) - 1

    def close(self, hour):
        """Closes the open round, and returns the row of its head."""
        entries = self._entries[-1]
        if not entries:
            raise ServiceError("empty")
        if self._heads and hour <= _hour_of(self._heads[-1]):
            raise ServiceError("hour")
        number = self.rounds()
        backs = [digest_of(self.mixing, self._heads[back]) for back in back_rounds(number)]
        row = head(self.name, number, hour, len(entries), root_of(self.mixing, entries), backs)
        self._heads.append(row)
        self._entries.append([])
        self._deeds.extend([CLOSING, hour])
        return row

    def rounds(self):
        """The number of closed rounds."""
        return len(self._heads)

    def head(self, number):
        """The row of the head of a closed round."""
        return self._heads[number]

    def entries(self, number):
        """The list of the entries of a closed round, or of the open one, which is the next."""
        return list(self._entries[number])

    def stamp(self, row, number, index):
        """The paper from a row that was entered to the head of its round."""
        way = way_of(self.mixing, self._entries[number], index)
        return Paper(row, [(self._heads[number], (ENTRY, index, way))])

    def back(self, start, end):
        """The paper from the head of a round to that of a later one, or of the same."""
        rounds = way_back(start, end)[::-1]
        steps = []
        for earlier, later in zip(rounds, rounds[1:]):
            place = (BACK, back_rounds(later).index(earlier))
            steps.append((self._heads[later], place))
        return Paper(self._heads[end], steps)

    def journal(self):
        """The row of what was done: two numbers for each deed."""
        return tuple(self._deeds)


def _hour_of(row):
    """The hour of a head."""
    return row[3]
