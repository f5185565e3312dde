"""Notebooks, which tell between which hours a thing was made."""

from sealround.errors import NotebookError
from sealround.papers import is_accepted, joined, rows_of
from sealround.things import BEACON, HEAD, is_thing_of


class Notebook:
    """Beacons that its owner trusts, and heads with the hours at which the owner saw them."""

    def __init__(self, mixing):
        self.mixing = mixing
        self._beacons = {}
        self._hours = {}
        self._last_hour = 0

    def note(self, row):
        """Notes a beacon."""
        if not is_thing_of(row, BEACON):
            raise NotebookError("not a beacon")
        self._beacons[row] = True

    def see(self, row, hour):
        """Notes a head with the hour at which it is seen; the first hour of a head counts."""
        if not is_thing_of(row, HEAD):
            raise NotebookError("not a head")
        if hour < self._last_hour:
            raise NotebookError("hour")
        self._last_hour = hour
        self._hours.setdefault(row, hour)

    def has_noted(self, row):
        """Whether this beacon was noted."""
        return row in self._beacons

    def seen(self, row):
        """The first hour at which this head was seen, or None."""
        return self._hours.get(row)


def window(notebook, row, papers):
    """The hours between which a row was made, as the papers show; None for a part without one."""
    earlier = _from_beacons(notebook, row, papers)
    later = _to_heads(notebook, row, papers)
    return _window_of(earlier, later)


def foretold(notebook, row, papers):
    """The paper from a beacon to a head that was seen before the beacon's hour, or None."""
    earlier = _from_beacons(notebook, row, papers)
    later = _to_heads(notebook, row, papers)
    lower, upper = _window_of(earlier, later)
    if lower is None or upper is None or lower <= upper:
        return None
    return joined(_first_of_hour(lower, earlier), _first_of_hour(upper, later))


def _window_of(earlier, later):
    """The greatest hour of the earlier things and the least one of the later ones."""
    lower = max([hour for hour, _ in earlier], default=None)
    upper = min([hour for hour, _ in later], default=None)
    return lower, upper


def _from_beacons(notebook, row, papers):
    """The accepted papers from noted beacons to a row: pairs of the beacon's hour and the paper."""
    return [
        (paper.first[1], paper)
        for paper in papers
        if notebook.has_noted(paper.first)
        and rows_of(paper)[-1] == row
        and is_accepted(notebook.mixing, paper)
    ]


def _to_heads(notebook, row, papers):
    """The accepted papers from a row to seen heads: pairs of the head's hour and the paper."""
    found = []
    for paper in papers:
        hour = notebook.seen(rows_of(paper)[-1])
        if hour is not None and paper.first == row and is_accepted(notebook.mixing, paper):
            found.append((hour, paper))
    return found


def _first_of_hour(hour, found):
    """The first paper that was found with this hour."""
    for shown, paper in found:
        if shown == hour:
            return paper
    return None
