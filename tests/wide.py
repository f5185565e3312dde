"""A mixing under which things do not clash by chance, and things that are made by it."""

from sealround.digests import Mixing
from sealround.things import document, head
from tests.plain import plain_digest, plain_root

BOUND = 2 ** 64
FACTOR = 1234567
WIDE = Mixing(BOUND, FACTOR)


def told(row):
    """The digest of a row."""
    return plain_digest(BOUND, FACTOR, row)


def cite(*rows, body=()):
    """A document that cites these rows."""
    return document([told(row) for row in rows], list(body))


def head_of(entries, service=9, number=0, hour=50, backs=()):
    """A head with the root of these entries."""
    root = plain_root(BOUND, FACTOR, entries)
    return head(service, number, hour, len(entries), root, list(backs))
