"""Renewals: chains of papers, each for a mixing that was strong when the one before still was."""

from sealround.digests import digest
from sealround.errors import ChainError
from sealround.papers import is_accepted, paper_row, rows_of
from sealround.things import renewal


def chain_row(chain):
    """The row of a chain, a list of pairs of a place and a paper."""
    numbers = [len(chain)]
    for place, paper in chain:
        row = paper_row(paper)
        numbers.extend([place, len(row), *row])
    return tuple(numbers)


def standing(notebooks, breaks, chain, now):
    """The hour at which the head of the first link was seen, if the chain stands."""
    if not chain:
        raise ChainError(0, "nothing")
    for index in range(len(chain)):
        reason = _fault_of_paper(notebooks, chain, index)
        if reason is None:
            reason = _fault_of_hours(notebooks, breaks, chain, index, now)
        if reason is not None:
            raise ChainError(index, reason)
    return _hour_of(notebooks, chain[0])


def _fault_of_paper(notebooks, chain, index):
    """The first reason for which the paper of a link is not the right one, or None."""
    place, paper = chain[index]
    mixing = notebooks[place].mixing
    if not is_accepted(mixing, paper):
        return "not accepted"
    if index > 0 and paper.first != renewal(digest(mixing, chain_row(chain[:index]))):
        return "another chain"
    if _hour_of(notebooks, chain[index]) is None:
        return "not seen"
    return None


def _fault_of_hours(notebooks, breaks, chain, index, now):
    """The first reason for which a link with the right paper came too late, or None."""
    if index > 0:
        hour = _hour_of(notebooks, chain[index])
        if hour < _hour_of(notebooks, chain[index - 1]):
            return "hours fall"
        if _is_broken(breaks, chain[index - 1], hour):
            return "too late"
    if index == len(chain) - 1 and _is_broken(breaks, chain[index], now):
        return "broken"
    return None


def _hour_of(notebooks, link):
    """The hour at which the head of a link was seen, or None."""
    place, paper = link
    return notebooks[place].seen(rows_of(paper)[-1])


def _is_broken(breaks, link, hour):
    """Whether the mixing of a link breaks at an hour or earlier."""
    place, _ = link
    return breaks[place] is not None and breaks[place] <= hour
