"""Witnesses, who sign the heads that services hand to them."""

from sealround.digests import digest
from sealround.errors import WitnessError
from sealround.links import BACK
from sealround.papers import is_accepted, rows_of
from sealround.things import HEAD, is_thing_of


class Witness:
    """Signs heads whose hours are right, each one held by the next one of its service."""

    def __init__(self, mixing, slack):
        self.mixing = mixing
        self.slack = slack
        self._entries = []
        self._last_heads = {}

    def sign(self, row, paper, hour):
        """Signs a head at an hour of the witness, and returns its entry."""
        reason = self._fault(row, paper, hour)
        if reason is not None:
            raise WitnessError(reason)
        service, number = row[1:3]
        entry = (service, number, hour, digest(self.mixing, row))
        self._entries.append(entry)
        self._last_heads[service] = row
        return entry

    def book(self):
        """The list of the entries of what was signed, in order."""
        return list(self._entries)

    def last(self, service):
        """The row of the last head of a service that was signed, or None."""
        return self._last_heads.get(service)

    def _fault(self, row, paper, hour):
        """The first reason for which a row is not signed, or None."""
        if not is_thing_of(row, HEAD):
            return "not a head"
        service, number, head_hour = row[1:4]
        if abs(head_hour - hour) > self.slack:
            return "hour"
        signed = self.last(service)
        if signed is not None and signed[2] >= number:
            return "not later"
        if not _is_right_paper(self.mixing, signed, row, paper):
            return "no paper"
        return None


def _is_right_paper(mixing, signed, row, paper):
    """Whether a paper leads back from a head to the one that was signed last, None without one."""
    if signed is None or paper is None:
        return signed is None and paper is None
    if paper.first != signed or rows_of(paper)[-1] != row:
        return False
    return all(place[0] == BACK for _, place in paper.steps) and is_accepted(mixing, paper)
