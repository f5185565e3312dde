"""Second computations for the tests of papers: the document's words, apart from the program."""

from tests.plain import (
    plain_back_rounds,
    plain_climb,
    plain_digest,
    plain_way,
)


def plain_is_thing(row):
    """Whether the row has the form of one of the four kinds."""
    match row:
        case (1, _, _) | (5, _):
            return True
        case (2, many, *others):
            return many <= len(others)
        case (4, _, number, _, count, _, *backs):
            return count > 0 and len(backs) == len(plain_back_rounds(number))
    return False


def plain_sides(count, index):
    """For each number of the way whether the entry is in the second part, by parting the entries."""
    if count == 1:
        return []
    middle = 1
    while 2 * middle < count:
        middle *= 2
    if index < middle:
        return plain_sides(middle, index) + [False]
    return plain_sides(count - middle, index - middle) + [True]


def plain_listed(row):
    """The cites or the back links of a thing: a dict from the place to the digest."""
    match row:
        case (2, many, *others):
            return {("cite", at): held for at, held in enumerate(others[:many])}
        case (4, _, _, _, _, _, *backs):
            return {("back", at): held for at, held in enumerate(backs)}
    return {}


def plain_there(row, place):
    """Whether the thing has such a place."""
    if place[0] == "entry":
        return row[0] == 4 and place[1] < row[4]
    return place in plain_listed(row)


def plain_holds(bound, factor, row, place, held):
    """Whether the thing holds the digest at the place."""
    if not plain_there(row, place):
        return False
    if place[0] != "entry":
        return plain_listed(row)[place] == held
    sides = plain_sides(row[4], place[1])
    if len(sides) != len(place[2]):
        return False
    return plain_climb(bound, factor, sides, held, place[2])[1] == row[5]


def plain_round_fits(before, row, place):
    """Whether the row before is the head to which the row goes back, if the place is a back link."""
    if place[0] != "back":
        return True
    if before[0] != 4 or before[1] != row[1] or before[3] >= row[3]:
        return False
    return before[2] == plain_back_rounds(row[2])[place[1]]


def plain_link(bound, factor, before, row, place):
    """Whether the first thing lies ahead of the second one at the place."""
    held = plain_holds(bound, factor, row, place, plain_digest(bound, factor, before))
    return held and plain_round_fits(before, row, place)


def plain_fault(bound, factor, first, steps):
    """The pair (step, reason) that counts, or None for an accepted paper."""
    found = [(0, 0, "not a thing")] if not plain_is_thing(first) else []
    before = first
    for step, (row, place) in enumerate(steps, start=1):
        if not plain_is_thing(row):
            found.append((step, 0, "not a thing"))
        elif not plain_there(row, place):
            found.append((step, 1, "no such place"))
        elif not plain_holds(bound, factor, row, place, plain_digest(bound, factor, before)):
            found.append((step, 2, "not this digest"))
        elif plain_is_thing(before) and not plain_round_fits(before, row, place):
            found.append((step, 3, "another round"))
        before = row
    return (min(found)[0], min(found)[2]) if found else None


def plain_paper_row(first, steps):
    """The row of a paper, put together piece by piece."""
    pieces = [(len(first),), first, (len(steps),)]
    for row, place in steps:
        pieces += [(len(row),), row]
        if place[0] == "entry":
            pieces += [(2, place[1], len(place[2])), place[2]]
        else:
            pieces.append((("cite", "back").index(place[0]), place[1]))
    return sum(pieces, ())


def plain_places(bound, factor, row, entries):
    """What a thing holds, by its places in order: pairs (place, digest)."""
    found = list(plain_listed(row).items())
    for at, entry in enumerate(entries):
        way = tuple(beside for _, beside in plain_way(bound, factor, entries, at))
        found.append((("entry", at, way), entry))
    return found
