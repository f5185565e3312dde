"""Judges, who ask the books of witnesses which heads they have signed."""


def confirmed(books, needed, service, number, digest):
    """Whether as many books as are needed have this digest of the round."""
    having = [book for book in books if _has(book, service, number, digest)]
    return len(having) >= needed


def both(books, service, number, one, two):
    """The indexes of the books that have two digests of one round."""
    return [
        index
        for index, book in enumerate(books)
        if _has(book, service, number, one) and _has(book, service, number, two)
    ]


def is_orderly(book):
    """Whether the rounds of each service ascend strictly, and the hours do not fall."""
    last_numbers = {}
    last_hour = 0
    for service, number, hour, _ in book:
        if hour < last_hour or number <= last_numbers.get(service, -1):
            return False
        last_numbers[service] = number
        last_hour = hour
    return True


def _has(book, service, number, digest):
    """Whether a book has an entry with this digest of the round."""
    wanted = (service, number, digest)
    return any((entry[0], entry[1], entry[3]) == wanted for entry in book)
