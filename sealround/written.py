"""The written form of papers: lines of words and decimal numbers."""

from sealround.errors import TextError
from sealround.links import BACK, CITE, ENTRY
from sealround.papers import Paper

FIRST = "first"
ROW = "row"
MOST_DIGITS = 4000
REASON = "not a paper"


def written(paper):
    """The written form of a paper, a text."""
    lines = [" ".join([FIRST] + _decimals(paper.first))]
    for row, place in paper.steps:
        lines.append(" ".join(_place_parts(place) + [ROW] + _decimals(row)))
    return "\n".join(lines)


def _place_parts(place):
    """The parts of a line that tell a place."""
    word, index = place[:2]
    if word != ENTRY:
        return [word, _decimal(index)]
    way = place[2]
    return [word] + _decimals([index, len(way), *way])


def _decimals(numbers):
    """The numbers, each in decimal digits."""
    return [_decimal(number) for number in numbers]


def _decimal(number):
    """The decimal digits of a number of any size."""
    # Python refuses to turn numbers of more than 4300 digits into strings at once.
    limit = 10 ** 64
    parts = []
    rest = number
    while rest >= limit:
        rest, low = divmod(rest, limit)
        parts.append(str(low).zfill(64))
    parts.append(str(rest))
    return "".join(parts[::-1])


def paper_of(text):
    """The paper of which the text is the written form."""
    lines = text.split("\n")
    first = _first_of(lines[0])
    if first is None:
        raise TextError(1, REASON)
    steps = []
    for number, line in enumerate(lines[1:], start=2):
        step = _step_of(line)
        if step is None:
            raise TextError(number, REASON)
        steps.append(step)
    return Paper(first, steps)


def _first_of(line):
    """The first row that a line tells; None if it is not of that form."""
    parts = line.split(" ")
    return _row_of(parts[1:]) if parts[0] == FIRST else None


def _step_of(line):
    """The step that a line tells, a pair of a row and a place; None if it is not of that form."""
    parts = line.split(" ")
    if ROW not in parts:
        return None
    middle = parts.index(ROW)
    place = _place_of(parts[:middle])
    row = _row_of(parts[middle + 1:])
    return None if place is None or row is None else (row, place)


def _place_of(parts):
    """The place that these parts of a line tell, or None."""
    numbers = _numbers_of(parts[1:])
    if not parts or numbers is None:
        return None
    word = parts[0]
    if word == CITE or word == BACK:
        return (word, numbers[0]) if len(numbers) == 1 else None
    if word == ENTRY and len(numbers) >= 2 and numbers[1] == len(numbers) - 2:
        return (word, numbers[0], tuple(numbers[2:]))
    return None


def _row_of(parts):
    """The row that these parts of a line tell, also one without numbers; None if one is none."""
    numbers = _numbers_of(parts)
    return None if numbers is None else tuple(numbers)


def _numbers_of(parts):
    """The list of the numbers that these parts of a line are; None if one of them is none."""
    if all(_is_number(part) for part in parts):
        return [int(part) for part in parts]
    return None


def _is_number(part):
    """Whether a part of a line is a number as it is written."""
    if len(part) > MOST_DIGITS or not (part.isascii() and part.isdecimal()):
        return False
    return part == "0" or part[0] != "0"
