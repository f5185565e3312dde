"""Traces: what a library says of a paper that ends with a known thing."""

from sealround.digests import digest
from sealround.links import ENTRY
from sealround.papers import rows_of
from sealround.trees import clash_of_ways, way_of


def trace(library, paper):
    """Goes back from the last row, which is known, as far as the rows before are known, too."""
    rows = rows_of(paper)
    for step in range(len(paper.steps), 0, -1):
        row, place = paper.steps[step - 1]
        before = rows[step - 1]
        clash = _clash_at(library, before, row, place)
        if clash is not None:
            return ("clash", *clash)
        if library.row_of(digest(library.mixing, before)) is None:
            return ("unknown", step)
    return ("known",)


def _clash_at(library, before, row, place):
    """The clash that a step to a known row shows, what the library has first; None without one."""
    mark = digest(library.mixing, before)
    if place[0] == ENTRY:
        clash = _clash_in_tree(library, mark, row, place)
        if clash is not None:
            return clash
    known = library.row_of(mark)
    return None if known is None or known == before else (known, before)


def _clash_in_tree(library, mark, row, place):
    """The clash if the digest or the way of an entry is not the one that the library has."""
    mixing = library.mixing
    _, index, way = place
    entries = library.entries_of(digest(mixing, row))
    known = (entries[index], way_of(mixing, entries, index))
    return clash_of_ways(mixing, len(entries), index, known, (mark, way))
