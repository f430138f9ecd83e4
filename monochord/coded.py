"""Coded numbers: integers from 0 to 2^36 - 1 in one to seven bytes."""

from monochord.errors import InvalidForm, MonochordError


def write_number(number):
    """The bytes of a coded number."""
    if number < 128:
        return [number]
    count = 2
    while count < 7 and number >= _bound(count):
        count += 1
    data = [_least_first(count) + (number >> (6 * (count - 1)))]
    for at in range(count - 2, -1, -1):
        data.append(128 + ((number >> (6 * at)) & 63))
    return data


def read_number(reader):
    """The coded number at the position of a reader, which stays there if an error is raised."""
    start = reader.bit_place()
    try:
        return _number_ahead(reader)
    except MonochordError:
        reader.move_to(start)
        raise


def _number_ahead(reader):
    """The coded number at the position of a reader."""
    place = reader.byte_place()
    first = reader.read(8)
    if first < 128:
        return first
    if first < 192 or first == 255:
        raise InvalidForm(place)
    count = _count_told(first)
    number = first - _least_first(count)
    for _ in range(count - 1):
        number = (number << 6) | _further_bits(reader)
    if number < _bound(count - 1):
        raise InvalidForm(place)
    return number


def _further_bits(reader):
    """The six bits that a further byte holds."""
    place = reader.byte_place()
    further = reader.read(8)
    if further < 128 or further > 191:
        raise InvalidForm(place)
    return further - 128


def _bound(count):
    """The least number that does not fit into so many bytes."""
    if count == 1:
        return 128
    return 1 << (5 * count + 1)


def _least_first(count):
    """The least first byte of a number of so many bytes, two or more."""
    return 256 - (1 << (8 - count))


def _count_told(first):
    """The number of bytes that a first byte from 192 to 254 tells."""
    count = 2
    while first >= _least_first(count + 1):
        count += 1
    return count
