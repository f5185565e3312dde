"""Things - beacons, documents, heads and renewals - and the rounds to which heads go back."""

BEACON = 1
DOCUMENT = 2
HEAD = 4
RENEWAL = 5


def is_thing(row):
    """Whether the row is a beacon, a document, a head or a renewal."""
    if not row:
        return False
    kind = row[0]
    if kind == BEACON:
        return len(row) == 3
    if kind == DOCUMENT:
        return _is_document(row)
    if kind == HEAD:
        return _is_head(row)
    return kind == RENEWAL and len(row) == 2


def _is_document(row):
    """Whether a row of the kind of a document has a count and as many digests."""
    return len(row) >= 2 and len(row) - 2 >= row[1]


def _is_head(row):
    """Whether a row of the kind of a head has entries and one digest for each round back."""
    if len(row) < 6:
        return False
    number = row[2]
    count = row[4]
    return count >= 1 and len(row) - 6 == _back_count(number)


def is_thing_of(row, kind):
    """Whether the row is a thing of this kind."""
    return is_thing(row) and kind_of(row) == kind


def kind_of(row):
    """The kind of a thing."""
    return row[0]


def beacon(hour, value):
    """The row of a beacon."""
    return (BEACON, hour, value)


def document(cites, body):
    """The row of a document that cites a list of digests, with a list of numbers as its body."""
    return (DOCUMENT, len(cites), *cites, *body)


def renewal(digest):
    """The row of a renewal of a chain with this digest."""
    return (RENEWAL, digest)


def head(service, number, hour, count, root, backs):
    """The row of a head; backs is the list of the digests of the rounds to which it goes back."""
    return (HEAD, service, number, hour, count, root, *backs)


def back_rounds(number):
    """The rounds to which a round goes back, the nearest one first."""
    return [number - (1 << exponent) for exponent in range(_back_count(number))]


def _back_count(number):
    """To how many rounds a round goes back."""
    # No list is made here: the powers of two up to the greatest step are as many as its bits.
    return _greatest_step(number).bit_length()


def _greatest_step(number):
    """The greatest power of two that divides the number of a round; 0 for round 0."""
    return number & -number


def way_back(start, end):
    """The shortest way back from a round to an earlier one or to itself, both included."""
    rounds = [start]
    number = start
    # Round 0 goes back to none: there the way stops, even if the end is below.
    while number > max(end, 0):
        # All powers of two up to the greatest step divide the number, so the least round
        # that is not below the end is reached by the greatest of them that does not pass it.
        widest = 1 << ((number - end).bit_length() - 1)
        number -= min(widest, _greatest_step(number))
        rounds.append(number)
    return rounds
