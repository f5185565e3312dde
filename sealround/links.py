"""The places at which things hold digests, and the links that are made there."""

from sealround.marks import digest_of
from sealround.things import DOCUMENT, HEAD, kind_of
from sealround.trees import climb

CITE = "cite"
BACK = "back"
ENTRY = "entry"


def listed(row, word):
    """The digests that a thing lists at its cites or at its back links, by their index."""
    kind = kind_of(row)
    if word == CITE and kind == DOCUMENT:
        return row[2:2 + row[1]]
    if word == BACK and kind == HEAD:
        return row[6:]
    return ()


def has_place(row, place):
    """Whether a thing is of the kind that the place asks for and has a place with this index."""
    word, index = place[:2]
    if word == ENTRY:
        return kind_of(row) == HEAD and 0 <= index < row[4]
    return 0 <= index < len(listed(row, word))


def held_at(mixing, row, place):
    """The digest that a thing holds at a cite or at a back link; None if it has no such place."""
    word, index = place[:2]
    if word == ENTRY or not has_place(row, place):
        return None
    return listed(row, word)[index]


def holds(mixing, row, place, digest):
    """Whether a thing holds the digest at the place."""
    if place[0] != ENTRY:
        return held_at(mixing, row, place) == digest
    if not has_place(row, place):
        return False
    _, index, way = place
    count, root = row[4:6]
    return climb(mixing, count, index, digest, way) == root


def is_right_round(before, row, place):
    """Whether the thing before may stand at the place: only back links ask for one round."""
    word, index = place[:2]
    if word != BACK:
        return True
    if kind_of(before) != HEAD:
        return False
    service, number, hour = row[1:4]
    before_service, before_number, before_hour = before[1:4]
    # A round goes back to number - 1, number - 2, number - 4 and so on, in this order.
    wanted = number - (1 << index)
    return before_service == service and before_number == wanted and before_hour < hour


def is_link(mixing, before, row, place):
    """Whether the first thing lies ahead of the second one by one link at the place."""
    held = holds(mixing, row, place, digest_of(mixing, before))
    return held and is_right_round(before, row, place)
