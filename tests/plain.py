"""Second computations for the tests: the document's words, done in another way than the program."""

PRIME = 2 ** 61 - 1


def plain_digest(bound, factor, row):
    """The digest as a sum of powers of the factor, with one reduction at the end."""
    shown = [len(row), *row]
    many = len(shown)
    total = factor ** many
    for at, number in enumerate(shown):
        total += (number + 1) * factor ** (many - 1 - at)
    state = total % PRIME
    return (state * 48271 + state // 65536) % bound


def plain_root(bound, factor, entries):
    """The root level by level: neighbours are paired, a last one without a partner moves up."""
    level = list(entries)
    while len(level) > 1:
        above = []
        for at in range(0, len(level) - 1, 2):
            above.append(plain_digest(bound, factor, (3, level[at], level[at + 1])))
        if len(level) % 2:
            above.append(level[-1])
        level = above
    return level[0]


def plain_way(bound, factor, entries, index):
    """The way level by level: pairs (True if the entry is in the second part, root beside it)."""
    steps = []
    level = list(entries)
    at = index
    while len(level) > 1:
        if at % 2:
            steps.append((True, level[at - 1]))
        elif at + 1 < len(level):
            steps.append((False, level[at + 1]))
        pairs = [level[low:low + 2] for low in range(0, len(level), 2)]
        level = [plain_root(bound, factor, pair) for pair in pairs]
        at //= 2
    return steps


def plain_climb(bound, factor, sides, entry, way):
    """The nodes of a climb, from the root down, and the root; sides are as turns returns them."""
    nodes = []
    below = entry
    for second, beside in zip(sides, way, strict=True):
        node = (3, beside, below) if second else (3, below, beside)
        nodes.insert(0, node)
        below = plain_digest(bound, factor, node)
    return nodes, below


def plain_nodes(bound, factor, entries):
    """All nodes of a tree, each ahead of those within its parts, the first part ahead."""
    count = len(entries)
    if count == 1:
        return
    middle = max(2 ** power for power in range(count) if 2 ** power < count)
    first, second = entries[:middle], entries[middle:]
    yield (3, plain_root(bound, factor, first), plain_root(bound, factor, second))
    yield from plain_nodes(bound, factor, first)
    yield from plain_nodes(bound, factor, second)


def plain_back_rounds(number):
    """The rounds back, by trying every power of two up to the number."""
    powers = []
    power = 1
    while power <= number:
        powers.append(power)
        power *= 2
    return [number - power for power in powers if number % power == 0]
