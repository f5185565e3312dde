"""Mixings, the digests that they make of rows, and clashes."""

PRIME = 2305843009213693951


class Mixing:
    """A bound that all digests stay below, and the factor that mixes."""

    def __init__(self, bound, factor):
        self.bound = bound
        self.factor = factor


def digest(mixing, row):
    """The digest of a row."""
    state = _mixed(mixing, 1, len(row))
    for number in row:
        state = _mixed(mixing, state, number)
    return (state * 48271 + state // 65536) % mixing.bound


def _mixed(mixing, state, number):
    """The state after one more number."""
    return (state * mixing.factor + number + 1) % PRIME


def is_clash(mixing, one, two):
    """Whether two rows are different and have the same digest."""
    return one != two and digest(mixing, one) == digest(mixing, two)
