"""Pictures, padding and applications."""

from monochord.errors import InvalidForm, InvalidText, ReservedValue
from monochord.text import read_utf8, write_utf8
from monochord.words import big_bytes, big_number, check_inside

_MOST_USE = 20


class Picture:
    """A picture: what it shows, what it is, its sizes and its content."""

    def __init__(self, use, media, description, width, height, bits, colours, content):
        self.use = use
        self.media = list(media)
        self.description = list(description)
        self.width = width
        self.height = height
        self.bits = bits
        self.colours = colours
        self.content = list(content)

    def fields(self):
        """All attributes, with new lists."""
        return (
            self.use,
            list(self.media),
            list(self.description),
            self.width,
            self.height,
            self.bits,
            self.colours,
            list(self.content),
        )

    def __eq__(self, other):
        return isinstance(other, Picture) and self.fields() == other.fields()


def read_picture(data, start, stop):
    """The Picture of the body from the index `start` up to, but not including, `stop`."""
    use = _read_number(data, start, stop)
    if use > _MOST_USE:
        raise ReservedValue(start)
    place = start + 4
    behind = _read_end(data, place, stop)
    media = _read_media(data, place + 4, behind)
    place = behind
    behind = _read_end(data, place, stop)
    description = read_utf8(data, place + 4, behind)
    place = behind
    numbers = [_read_number(data, place + at, stop) for at in (0, 4, 8, 12)]
    place += 16
    behind = _read_end(data, place, stop)
    content = data[place + 4:behind]
    if behind < stop:
        raise InvalidForm(behind)
    width, height, bits, colours = numbers
    return Picture(use, media, description, width, height, bits, colours, content)


def write_picture(picture):
    """The body of a Picture."""
    data = big_bytes(picture.use, 4)
    data.extend(_with_length(picture.media))
    data.extend(_with_length(write_utf8(picture.description)))
    for number in (picture.width, picture.height, picture.bits, picture.colours):
        data.extend(big_bytes(number, 4))
    data.extend(_with_length(picture.content))
    return data


def read_padding(data, start, stop):
    """The number of bytes of the body from the index `start` up to `stop`, which are all 0."""
    for at in range(start, stop):
        if data[at] != 0:
            raise InvalidForm(at)
    return stop - start


def read_application(data, start, stop):
    """The identifier and the content of the body from the index `start` up to, but not including, `stop`."""
    check_inside(start, 4, stop)
    return big_number(data, start, 4), data[start + 4:stop]


def write_application(application):
    """The body of an application, a tuple of an identifier and a content."""
    identifier, content = application
    return big_bytes(identifier, 4) + content


def _read_number(data, place, stop):
    """The number at a place."""
    check_inside(place, 4, stop)
    return big_number(data, place, 4)


def _read_end(data, place, stop):
    """The place behind the bytes whose length stands at a place."""
    behind = place + 4 + _read_number(data, place, stop)
    if behind > stop:
        raise InvalidForm(place)
    return behind


def _read_media(data, start, stop):
    """The media list between two places."""
    for at in range(start, stop):
        if data[at] < 32 or data[at] > 126:
            raise InvalidText(at)
    return data[start:stop]


def _with_length(content):
    """Some bytes behind their number."""
    return big_bytes(len(content), 4) + content
