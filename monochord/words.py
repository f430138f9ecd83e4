"""Numbers of whole bytes in byte lists."""

from monochord.errors import InvalidForm


def big_bytes(number, count):
    """The bytes of a number, the most significant one first."""
    return [(number >> shift) & 255 for shift in range(8 * count - 8, -8, -8)]


def little_bytes(number, count):
    """The bytes of a number, the least significant one first."""
    return [(number >> shift) & 255 for shift in range(0, 8 * count, 8)]


def big_number(data, place, count):
    """The number of so many bytes from a place on, the most significant one first."""
    number = 0
    for byte in data[place:place + count]:
        number = (number << 8) | byte
    return number


def little_number(data, place, count):
    """The number of so many bytes from a place on, the least significant one first."""
    number = 0
    for byte in reversed(data[place:place + count]):
        number = (number << 8) | byte
    return number


def check_inside(place, count, stop):
    """Raise InvalidForm if a field of so many bytes exceeds a body that ends in front of the index `stop`."""
    if place + count > stop:
        raise InvalidForm(place)
