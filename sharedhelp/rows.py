"""Lists of numbers: what is refused of those handed over, and how they are taken apart and put together."""

from sharedhelp.refusals import BadValue


def check_within(numbers, least, most):
    """Refuse numbers one of which isn't from the least to the most."""
    for number in numbers:
        if not least <= number <= most:
            raise BadValue()


def check_length(row, length):
    """Refuse a list that hasn't so many numbers."""
    if len(row) != length:
        raise BadValue()


def parts_of(row, length):
    """The list's numbers in parts of this length; refused if the last one isn't full."""
    if len(row) % length != 0:
        raise BadValue()
    return [tuple(row[place:place + length]) for place in range(0, len(row), length)]


def flat(parts):
    """The numbers of all the parts, one behind another."""
    told = []
    for part in parts:
        told.extend(part)
    return told
