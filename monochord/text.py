"""Texts, which are lists of code points, and their bytes in UTF-8."""

from monochord.errors import InvalidText


def points_of(string):
    """The text of a string of ASCII characters."""
    return [ord(character) for character in string]


def write_utf8(text):
    """The bytes of a text."""
    data = []
    for point in text:
        data.extend(_point_bytes(point))
    return data


def read_utf8(data, start, stop):
    """The text of the bytes from the index `start` up to, but not including, `stop`."""
    text = []
    place = start
    while place < stop:
        count = _count_told(data[place])
        if count == 0 or place + count > stop:
            raise InvalidText(place)
        text.append(_read_point(data, place, count))
        place += count
    return text


def _point_count(point):
    """The number of bytes that store a code point."""
    if point < 128:
        return 1
    if point < 2048:
        return 2
    if point < 65536:
        return 3
    return 4


def _least_first(count):
    """The least first byte of a sequence of so many bytes, two or more."""
    return 256 - (256 >> count)


def _point_bytes(point):
    """The bytes of a code point."""
    count = _point_count(point)
    if count == 1:
        return [point]
    data = [_least_first(count) + (point >> (6 * count - 6))]
    for shift in range(6 * count - 12, -6, -6):
        data.append(128 + ((point >> shift) & 63))
    return data


def _count_told(first):
    """The number of bytes of a sequence that a first byte tells, or 0 if it cannot be a first byte."""
    if first < 128:
        return 1
    for count in (2, 3, 4):
        if _least_first(count) <= first < _least_first(count + 1):
            return count
    return 0


def _read_point(data, place, count):
    """The code point of the sequence of so many bytes at a place."""
    if count == 1:
        return data[place]
    point = data[place] - _least_first(count)
    for further in data[place + 1:place + count]:
        if further < 128 or further > 191:
            raise InvalidText(place)
        point = (point << 6) | (further - 128)
    if point > 1114111 or 55296 <= point <= 57343 or _point_count(point) < count:
        raise InvalidText(place)
    return point
