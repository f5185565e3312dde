"""Trees of entries: their roots, the ways to them, and clashes of trees with the same root."""

from sealround.digests import digest

NODE = 3


def _first_count(count):
    """How many of at least two entries the first part has: the greatest power of two below."""
    return 1 << ((count - 1).bit_length() - 1)


def root_of(mixing, entries):
    """The root of a list of entries; None if there are no entries."""
    root, _ = _root_and_nodes(mixing, entries)
    return root


def _root_and_nodes(mixing, entries):
    """The root, and all nodes, each ahead of those within its parts, the first part ahead."""
    if not entries:
        return None, []
    if len(entries) == 1:
        return entries[0], []
    middle = _first_count(len(entries))
    left, left_nodes = _root_and_nodes(mixing, entries[:middle])
    right, right_nodes = _root_and_nodes(mixing, entries[middle:])
    node = (NODE, left, right)
    return digest(mixing, node), [node, *left_nodes, *right_nodes]


def way_of(mixing, entries, index):
    """The way of the entry with this index: the roots of the parts beside it, from it up."""
    way = []
    part = entries
    for in_second in turns(len(entries), index)[::-1]:
        middle = _first_count(len(part))
        first, second = part[:middle], part[middle:]
        part, beside = (second, first) if in_second else (first, second)
        way.append(root_of(mixing, beside))
    return tuple(way[::-1])


def turns(count, index):
    """For each number of the way, from the entry up, whether the entry is in the second part."""
    found = []
    size = count
    at = index
    while size > 1:
        middle = _first_count(size)
        in_second = at >= middle
        found.append(in_second)
        if in_second:
            at -= middle
            size -= middle
        else:
            size = middle
    return found[::-1]


def climb(mixing, count, index, entry, way):
    """The root to which a digest and a way climb; None if the way has another length."""
    if len(way) != len(turns(count, index)):
        return None
    nodes = _nodes_up(mixing, count, index, entry, way)
    return digest(mixing, nodes[-1]) if nodes else entry


def _nodes_up(mixing, count, index, entry, way):
    """The nodes through which a digest and a way climb, from the entry up."""
    nodes = []
    below = entry
    for in_second, beside in zip(turns(count, index), way):
        node = (NODE, beside, below) if in_second else (NODE, below, beside)
        nodes.append(node)
        below = digest(mixing, node)
    return nodes


def clash_of_ways(mixing, count, index, one, two):
    """The clash of two pairs (digest, way) that climb to the same root; None for equal pairs."""
    one_entry, one_way = one
    two_entry, two_way = two
    one_nodes = _nodes_up(mixing, count, index, one_entry, one_way)
    two_nodes = _nodes_up(mixing, count, index, two_entry, two_way)
    return _first_difference(one_nodes[::-1], two_nodes[::-1])


def clash_of_entries(mixing, one, two):
    """The clash of two lists of entries of one length and one root; None for equal lists."""
    _, one_nodes = _root_and_nodes(mixing, one)
    _, two_nodes = _root_and_nodes(mixing, two)
    return _first_difference(one_nodes, two_nodes)


def _first_difference(one_nodes, two_nodes):
    """The first two nodes at the same place that differ, or None."""
    # If each node comes behind the one that holds its digest, then those above the first
    # difference are equal, so these two nodes have the same digest.
    for one, two in zip(one_nodes, two_nodes):
        if one != two:
            return one, two
    return None
