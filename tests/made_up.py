"""Papers for the tests that nobody who keeps the rules would write, but that are accepted."""

import itertools

from tests.plain import plain_climb
from tests.plain_checks import plain_own_way
from tests.plain_papers import plain_listed, plain_round_fits, plain_sides


def made_up_document(world, digest):
    """A document with this digest, under a small bound; it cites some digests of the world."""
    while True:
        cites = [world.chance.randrange(world.bound) for _ in range(world.chance.randrange(3))]
        body = [world.chance.randrange(1000)]
        row = (2, len(cites), *cites, *body)
        if world.digest(row) == digest:
            return row


def climbing_ways(bound, factor, row, index, digest):
    """All ways of numbers below a small bound with which a digest climbs to the root of a head."""
    sides = plain_sides(row[4], index)
    for way in itertools.product(range(bound), repeat=len(sides)):
        if plain_climb(bound, factor, sides, digest, way)[1] == row[5]:
            yield way


def places_to(world, row, entries):
    """What leads to a thing: pairs of a place and the digest that is held there.

    Beside the true ways of entries there are some others that climb, if they are found by chance.
    """
    found = [(place, held) for place, held in plain_listed(row).items()]
    for index, entry in enumerate(entries):
        found.append((("entry", index, plain_own_way(world.bound, world.factor, entries, index)), entry))
        found += other_places(world, row, index)
    return found


def other_places(world, row, index):
    """Another digest and way for an entry of a head, as a list with at most one pair."""
    sides = plain_sides(row[4], index)
    for _ in range(4):
        held = world.chance.randrange(world.bound)
        way = tuple(world.chance.randrange(world.bound) for _ in sides)
        if plain_climb(world.bound, world.factor, sides, held, way)[1] == row[5]:
            return [(("entry", index, way), held)]
    return []


def paper_to(world, known, most):
    """A first row and steps back from a known thing: through known things, or to made-up ones.

    The rows before are taken from all things of the world, also those that are not known.
    """
    row, entries = world.chance.choice(known)
    steps = []
    while len(steps) < most:
        places = places_to(world, row, entries)
        if not places:
            break
        place, held = world.chance.choice(places)
        fitting = [thing for thing in world.things if world.digest(thing[0]) == held]
        if not fitting or world.chance.random() < 0.3:
            if world.bound > 1000 or place[0] == "back":
                break
            fitting = [(made_up_document(world, held), [])]
        before, entries_before = world.chance.choice(fitting)
        if not plain_round_fits(before, row, place):
            break
        steps.insert(0, (row, place))
        row, entries = before, entries_before
    return row, steps
