"""Quarrels: what two accepted papers tell against whoever made what they show."""

from sealround.digests import digest
from sealround.links import ENTRY
from sealround.papers import rows_of
from sealround.things import HEAD, kind_of
from sealround.trees import clash_of_ways


def evidence(mixing, one, two):
    """The first evidence that is found: a clash of rows or in a tree, a fork or a loop."""
    rows = rows_of(one) + rows_of(two)
    clash = _clash_of_rows(mixing, rows)
    if clash is None:
        clash = _clash_in_tree(mixing, one, two)
    if clash is not None:
        return ("clash", *clash)
    fork = _fork(mixing, rows)
    return _loop(mixing, one, two) if fork is None else fork


def _clash_of_rows(mixing, rows):
    """The first two different rows with the same digest, or None."""
    found = _first_two([(digest(mixing, row), row) for row in rows])
    return None if found is None else found[1:]


def _clash_in_tree(mixing, one, two):
    """The clash of the first two that show different things at one entry of a head, or None."""
    found = _first_two(_entries_shown(mixing, one) + _entries_shown(mixing, two))
    if found is None:
        return None
    (row, index), earlier, later = found
    count = row[4]
    return clash_of_ways(mixing, count, index, earlier, later)


def _entries_shown(mixing, paper):
    """What a paper shows at entries: pairs of the row with the index, and the digest with the way."""
    found = []
    before = paper.first
    for row, place in paper.steps:
        if place[0] == ENTRY:
            _, index, way = place
            found.append(((row, index), (digest(mixing, before), way)))
        before = row
    return found


def _fork(mixing, rows):
    """The first two different heads of one round as evidence, or None."""
    found = _first_two([(row[1:3], row) for row in rows if kind_of(row) == HEAD])
    if found is None:
        return None
    (service, number), earlier, later = found
    return ("fork", service, number, digest(mixing, earlier), digest(mixing, later))


def _first_two(pairs):
    """The first two different values with the same key, behind this key; None if there are none.

    The place of the earlier value counts ahead of that of the later one.
    """
    firsts = {}
    others = {}
    for key, value in pairs:
        earlier = firsts.setdefault(key, value)
        if value != earlier:
            others.setdefault(key, value)
    # The keys stand in the order of their first values.
    for key, earlier in firsts.items():
        if key in others:
            return key, earlier, others[key]
    return None


def _loop(mixing, one, two):
    """The first row that is met again, or with another order of rows, as evidence, or None."""
    one_rows = rows_of(one)
    two_rows = rows_of(two)
    row = _first_twice(one_rows)
    if row is None:
        row = _first_twice(two_rows)
    if row is None:
        row = _first_turned(one_rows, two_rows)
    return None if row is None else ("loop", digest(mixing, row))


def _first_twice(rows):
    """The first row that stands there twice, or None."""
    many = {}
    for row in rows:
        many[row] = many.get(row, 0) + 1
    for row in rows:
        if many[row] > 1:
            return row
    return None


def _first_turned(one_rows, two_rows):
    """The first row that stands ahead of another one there, and behind it in the second list.

    No row stands twice in one of the lists.
    """
    places = {row: at for at, row in enumerate(two_rows)}
    shared = [row for row in one_rows if row in places]
    found = None
    least = len(two_rows)
    # Going from the end, it is enough to know the least place of the rows that stand behind.
    for row in shared[::-1]:
        if least < places[row]:
            found = row
        least = min(least, places[row])
    return found
