"""Libraries of known things, their gaps, and the paths that the links of known things make."""

from sealround.errors import ThingError
from sealround.links import BACK, CITE, ENTRY, is_right_round, listed
from sealround.marks import digest_of
from sealround.papers import Paper
from sealround.things import HEAD, is_thing, kind_of
from sealround.trees import clash_of_entries, root_of, way_of


class Library:
    """The things that somebody knows, each head with the entries of its round."""

    def __init__(self, mixing):
        self.mixing = mixing
        self._rows = {}
        self._entries = {}

    def put(self, row, entries):
        """Puts a thing in; tells the clash for which it is not put in, otherwise None."""
        if not is_thing(row):
            raise ThingError("not a thing")
        if not _are_entries(self.mixing, row, entries):
            raise ThingError("other entries")
        mark = digest_of(self.mixing, row)
        if mark not in self._rows:
            self._rows[mark] = row
            if kind_of(row) == HEAD:
                self._entries[mark] = list(entries)
            return None
        known = self._rows[mark]
        if known != row:
            return known, row
        if kind_of(row) == HEAD:
            return clash_of_entries(self.mixing, self._entries[mark], entries)
        return None

    def row_of(self, digest):
        """The known row with this digest, or None."""
        return self._rows.get(digest)

    def entries_of(self, digest):
        """The list of the entries of a known head, or None."""
        if digest not in self._entries:
            return None
        return list(self._entries[digest])

    def rows(self):
        """The list of the known rows, in the order in which they were put in."""
        return list(self._rows.values())

    def gaps(self):
        """The pairs of the digest of a known thing and a digest that it holds of no known row."""
        found = []
        for mark in self._rows:
            for held, _ in self._held_by(mark):
                if held not in self._rows:
                    found.append((mark, held))
        return found

    def is_closed(self):
        """Whether there are no gaps."""
        return not self.gaps()

    def path(self, start, end):
        """The least of the shortest papers of the library from one thing to another, or None."""
        mark = digest_of(self.mixing, start)
        last = digest_of(self.mixing, end)
        following = self._following(mark, last)
        if mark not in following:
            return None
        steps = []
        while mark != last:
            later = following[mark]
            steps.append((self._rows[later], self._first_place(mark, later)))
            mark = later
        return Paper(start, steps)

    def _following(self, start, end):
        """The digest of the next thing on the path to the end, by the digest of a thing.

        The search begins at the end and goes one link back each time, until it meets the start.
        """
        following = {end: end}
        level = [end]
        while level and start not in following:
            found = {}
            # Of several next things the one with the least row counts, so it is asked first.
            for later in sorted(level, key=self._row_with):
                for mark, _ in self._links_to(later):
                    if mark not in following and mark not in found:
                        found[mark] = later
            following.update(found)
            level = list(found)
        return following

    def _row_with(self, mark):
        """The known row with this digest, by which digests are sorted."""
        return self._rows[mark]

    def _first_place(self, mark, later):
        """The first place at which a known thing holds another one by a link."""
        for held, place in self._links_to(later):
            if held == mark:
                return self._whole_place(later, place)
        return None

    def _whole_place(self, mark, place):
        """The place in a known thing, with the way if it is one of an entry."""
        word, index = place
        if word != ENTRY:
            return place
        return (word, index, way_of(self.mixing, self._entries[mark], index))

    def _links_to(self, mark):
        """Those pairs of what a known thing holds that make a link from a known thing."""
        row = self._rows[mark]
        return [
            (held, place)
            for held, place in self._held_by(mark)
            if held in self._rows and is_right_round(self._rows[held], row, place)
        ]

    def _held_by(self, mark):
        """What a known thing holds, by its places in order: pairs of the digest and the place.

        The places of entries stand without their ways: few of these are ever needed.
        """
        row = self._rows[mark]
        found = [(held, (CITE, index)) for index, held in enumerate(listed(row, CITE))]
        found.extend([(held, (BACK, index)) for index, held in enumerate(listed(row, BACK))])
        entries = self._entries.get(mark, [])
        found.extend([(held, (ENTRY, index)) for index, held in enumerate(entries)])
        return found


def _are_entries(mixing, row, entries):
    """Whether these are the entries of a thing: a head has those of its round, others have none."""
    if kind_of(row) != HEAD:
        return not entries
    count, root = row[4:6]
    return len(entries) == count and root_of(mixing, entries) == root
