"""The digest of a row, for files in which something else is called digest."""

from sealround.digests import digest


def digest_of(mixing, row):
    """The digest of a row."""
    # The interface calls a parameter of other files digest, and no parameter may have the name
    # of an import: those files import this name instead.
    return digest(mixing, row)
