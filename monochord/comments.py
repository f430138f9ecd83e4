"""Comments: a vendor and named values."""

from monochord.errors import InvalidForm, InvalidText
from monochord.text import read_utf8, write_utf8
from monochord.words import check_inside, little_bytes, little_number

# The code point between a name and its value.
_EQUALS = 61


class Comments:
    """A vendor and a list of entries, each with a name and a value."""

    def __init__(self, vendor, entries):
        self.vendor = list(vendor)
        self.entries = [(list(name), list(value)) for name, value in entries]

    def values_of(self, name):
        """The values of all entries with a matching name, new lists."""
        return [list(value) for own_name, value in self.entries if _match(own_name, name)]

    def with_values(self, name, values):
        """New Comments in which these values have taken the place of all values of matching names."""
        kept = []
        at = None
        for own_name, value in self.entries:
            if not _match(own_name, name):
                kept.append((own_name, value))
            elif at is None:
                at = len(kept)
        if at is None:
            at = len(kept)
        inserted = [(name, value) for value in values]
        return Comments(self.vendor, kept[:at] + inserted + kept[at:])

    def __eq__(self, other):
        return isinstance(other, Comments) and self.vendor == other.vendor and self.entries == other.entries


def read_comments(data, start, stop):
    """The Comments of the body from the index `start` up to, but not including, `stop`."""
    place = start + 4 + _read_length(data, start, stop)
    vendor = read_utf8(data, start + 4, place)
    check_inside(place, 4, stop)
    count = little_number(data, place, 4)
    place += 4
    entries = []
    for _ in range(count):
        behind = place + 4 + _read_length(data, place, stop)
        entries.append(_read_entry(data, place, behind))
        place = behind
    if place < stop:
        raise InvalidForm(place)
    return Comments(vendor, entries)


def write_comments(comments):
    """The body of Comments."""
    vendor = write_utf8(comments.vendor)
    data = little_bytes(len(vendor), 4) + vendor + little_bytes(len(comments.entries), 4)
    for name, value in comments.entries:
        entry = name + [_EQUALS] + write_utf8(value)
        data.extend(little_bytes(len(entry), 4))
        data.extend(entry)
    return data


def _match(name, other):
    """True if two names differ in nothing but the case of their letters."""
    return _upper_case(name) == _upper_case(other)


def _upper_case(name):
    """A name with upper case letters only."""
    return [point - 32 if 97 <= point <= 122 else point for point in name]


def _read_length(data, place, stop):
    """The length at a place, which is not greater than the number of bytes behind it."""
    check_inside(place, 4, stop)
    length = little_number(data, place, 4)
    if length > stop - place - 4:
        raise InvalidForm(place)
    return length


def _read_entry(data, place, stop):
    """The name and the value of the entry whose length stands at a place and which ends in front of `stop`."""
    start = place + 4
    content = data[start:stop]
    if _EQUALS not in content or content[0] == _EQUALS:
        raise InvalidForm(place)
    equals = start + content.index(_EQUALS)
    for at in range(start, equals):
        if data[at] < 32 or data[at] > 126:
            raise InvalidText(at)
    return data[start:equals], read_utf8(data, equals + 1, stop)
