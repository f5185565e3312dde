"""Papers: paths of links from a first thing to a last one."""

from sealround.digests import digest
from sealround.errors import PaperError
from sealround.links import BACK, CITE, has_place, holds, is_right_round
from sealround.things import is_thing


class Paper:
    """A first row, and steps that lead on from it: pairs of a row and a place."""

    def __init__(self, first, steps):
        self.first = first
        self.steps = list(steps)


def check(mixing, paper):
    """The digests of the first and the last row of an accepted paper."""
    fault = _first_fault(mixing, paper)
    if fault is not None:
        step, reason = fault
        raise PaperError(step, reason)
    rows = rows_of(paper)
    return digest(mixing, rows[0]), digest(mixing, rows[-1])


def is_accepted(mixing, paper):
    """Whether all rows are things, and each one lies ahead of the next one."""
    return _first_fault(mixing, paper) is None


def _first_fault(mixing, paper):
    """The first step for which a paper is refused, with the reason; None if it is accepted."""
    if not is_thing(paper.first):
        return 0, "not a thing"
    before = paper.first
    for step, (row, place) in enumerate(paper.steps, start=1):
        reason = _fault_of_step(mixing, before, row, place)
        if reason is not None:
            return step, reason
        before = row
    return None


def _fault_of_step(mixing, before, row, place):
    """The first reason for which a step behind a thing is refused, or None."""
    if not is_thing(row):
        return "not a thing"
    if not has_place(row, place):
        return "no such place"
    if not holds(mixing, row, place, digest(mixing, before)):
        return "not this digest"
    if not is_right_round(before, row, place):
        return "another round"
    return None


def rows_of(paper):
    """The rows of a paper, in order."""
    return [paper.first] + [row for row, _ in paper.steps]


def joined(one, two):
    """The paper that goes on with the second one, which begins with the last row of the first."""
    return Paper(one.first, one.steps + two.steps)


def paper_row(paper):
    """The row of a paper, from which it can be read back."""
    numbers = [len(paper.first), *paper.first, len(paper.steps)]
    for row, place in paper.steps:
        numbers.append(len(row))
        numbers.extend(row)
        numbers.extend(_place_numbers(place))
    return tuple(numbers)


def _place_numbers(place):
    """The numbers that tell a place in the row of a paper."""
    word, index = place[:2]
    if word == CITE:
        return [0, index]
    if word == BACK:
        return [1, index]
    way = place[2]
    return [2, index, len(way), *way]
