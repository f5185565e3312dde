"""Second computations for traces and quarrels: the document's words, apart from the program."""

import itertools

from tests.plain import plain_climb, plain_digest, plain_way
from tests.plain_papers import plain_sides


def plain_rows(first, steps):
    """The rows of a paper, in order."""
    return [first] + [row for row, _ in steps]


def plain_own_way(bound, factor, entries, index):
    """The way of an entry, as a tuple."""
    return tuple(beside for _, beside in plain_way(bound, factor, entries, index))


def plain_differing_nodes(bound, factor, count, index, one, two):
    """The first two nodes that differ, going from the root down; one and two are (digest, way)."""
    sides = plain_sides(count, index)
    nodes = [plain_climb(bound, factor, sides, *shown)[0] for shown in (one, two)]
    return next((pair for pair in zip(*nodes, strict=True) if pair[0] != pair[1]), None)


def plain_trace(bound, factor, things, first, steps):
    """What a trace returns, if these things, pairs of a row and its entries, are what is known."""
    rows = plain_rows(first, steps)
    known = {plain_digest(bound, factor, row): (row, entries) for row, entries in things}
    for step in range(len(steps), 0, -1):
        before, row = rows[step - 1], rows[step]
        mark = plain_digest(bound, factor, before)
        place = steps[step - 1][1]
        if place[0] == "entry":
            entries = known[plain_digest(bound, factor, row)][1]
            ours = (entries[place[1]], plain_own_way(bound, factor, entries, place[1]))
            shown = (mark, place[2])
            if ours != shown:
                nodes = plain_differing_nodes(bound, factor, len(entries), place[1], ours, shown)
                return ("clash", *nodes)
        if mark not in known:
            return ("unknown", step)
        if known[mark][0] != before:
            return ("clash", known[mark][0], before)
    return ("known",)


def plain_evidence(bound, factor, one, two):
    """What evidence returns for two papers, pairs of a first row and steps."""
    rows = plain_rows(*one) + plain_rows(*two)
    # The pairs come by the place of the earlier one, then by that of the later one.
    pairs = list(itertools.combinations(rows, 2))
    for earlier, later in pairs:
        marks = [plain_digest(bound, factor, row) for row in (earlier, later)]
        if earlier != later and marks[0] == marks[1]:
            return ("clash", earlier, later)
    shown = plain_shown(bound, factor, *one) + plain_shown(bound, factor, *two)
    for earlier, later in itertools.combinations(shown, 2):
        if earlier[:2] == later[:2] and earlier[2] != later[2]:
            row, index, pair = earlier
            nodes = plain_differing_nodes(bound, factor, row[4], index, pair, later[2])
            return ("clash", *nodes)
    for earlier, later in pairs:
        if earlier[0] == later[0] == 4 and earlier != later and earlier[1:3] == later[1:3]:
            marks = [plain_digest(bound, factor, row) for row in (earlier, later)]
            return ("fork", earlier[1], earlier[2], *marks)
    looped = plain_looped(plain_rows(*one), plain_rows(*two))
    return None if looped is None else ("loop", plain_digest(bound, factor, looped))


def plain_shown(bound, factor, first, steps):
    """What a paper shows at entries: triples of the row, the index and the pair (digest, way)."""
    found = []
    for before, (row, place) in zip(plain_rows(first, steps), steps):
        if place[0] == "entry":
            found.append((row, place[1], (plain_digest(bound, factor, before), place[2])))
    return found


def plain_looped(one, two):
    """The first row that tells a loop of two lists of rows, or None."""
    for rows in (one, two):
        for row in rows:
            if rows.count(row) > 1:
                return row
    for row, other in itertools.product(one, repeat=2):
        if row in two and other in two and one.index(row) < one.index(other):
            if two.index(row) > two.index(other):
                return row
    return None
