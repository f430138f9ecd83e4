"""Streams in Ogg files, which are sequences of pages."""

from monochord.checksums import crc32
from monochord.decoder import decode
from monochord.errors import (
    Disagreement, InvalidForm, InvalidPage, LostSync, NotAStream, OutOfOrder, ReservedValue, Truncated, raise_named,
)
from monochord.words import big_bytes, big_number, little_bytes, little_number

_MARK = (79, 103, 103, 83)

# Where the fields of a page stand.
_VERSION = 4
_FLAGS = 5
_GRANULE = 6
_SERIAL = 14
_NUMBER = 18
_CHECKSUM = 22
_COUNT = 26
_LENGTHS = 27

_MOST_FLAGS = 7
_GOES_ON = 1
_FIRST = 2
_LAST = 4

_WHOLE_SEGMENT = 255

# The granule position of a page on which no packet ends.
_NO_GRANULE = 0xFFFFFFFFFFFFFFFF

# The first packet: its first bytes, the major version, the place of the number of further blocks, and that of the
# beginning of the stream with its marker and its first block.
_MAPPING = (127, 70, 76, 65, 67)
_MAJOR = 1
_TOLD = 7
_STREAM = 9
_STREAM_MARKER = (102, 76, 97, 67)
_FIRST_LENGTH = 51
_FIRST_PART = 42
_MOST_TOLD = 65535

# The place of the first packet in the file.
_PACKET = 28


class Page:
    """A page: its flags, its granule position, its serial and page number, and its segments."""

    def __init__(self, flags, granule, serial, number, segments):
        self.flags = flags
        self.granule = granule
        self.serial = serial
        self.number = number
        self.segments = [list(segment) for segment in segments]


def lace(packet):
    """The segments of a packet; the last one has less than 255 bytes."""
    return [packet[at:at + _WHOLE_SEGMENT] for at in range(0, len(packet) + 1, _WHOLE_SEGMENT)]


def write_page(page):
    """The bytes of a page."""
    head = list(_MARK) + [0, page.flags] + little_bytes(page.granule, 8)
    head.extend(little_bytes(page.serial, 4) + little_bytes(page.number, 4))
    rest = [len(page.segments)] + [len(segment) for segment in page.segments]
    for segment in page.segments:
        rest.extend(segment)
    return head + little_bytes(crc32(head + [0, 0, 0, 0] + rest), 4) + rest


def read_page(data, at):
    """The page at a place, and the place behind it."""
    if at + len(_MARK) > len(data):
        raise Truncated(len(data))
    if data[at:at + len(_MARK)] != list(_MARK):
        raise LostSync(at)
    lengths, behind = _read_lengths(data, at)
    if data[at + _VERSION] != 0:
        raise ReservedValue(at + _VERSION)
    if data[at + _FLAGS] > _MOST_FLAGS:
        raise ReservedValue(at + _FLAGS)
    head = data[at:at + _CHECKSUM] + [0, 0, 0, 0]
    if little_number(data, at + _CHECKSUM, 4) != crc32(data[at + _COUNT:behind], crc32(head)):
        raise InvalidPage(at)
    segments = []
    place = at + _LENGTHS + len(lengths)
    for length in lengths:
        segments.append(data[place:place + length])
        place += length
    page = Page(
        data[at + _FLAGS], little_number(data, at + _GRANULE, 8), little_number(data, at + _SERIAL, 4),
        little_number(data, at + _NUMBER, 4), segments
    )
    return page, behind


def to_ogg(data, *, serial, segments=255):
    """The Ogg file of a stream, with so many segments on a page."""
    decoded = decode(data)
    if decoded.fault is not None:
        name, place = decoded.fault
        raise_named(name, place)
    blocks = _further_blocks(data)
    told = len(blocks) if len(blocks) <= _MOST_TOLD else 0
    first = list(_MAPPING) + [_MAJOR, 0] + big_bytes(told, 2) + data[:_FIRST_PART]
    pages = [(0, 0, [first])]
    pages.extend(_group([(block, 0) for block in blocks], segments))
    pages.extend(_group(_frames(data, decoded.frames), segments))
    written = []
    for number, (flags, granule, parts) in enumerate(pages):
        whole_flags = flags + _edge_flags(number, len(pages))
        written.extend(write_page(Page(whole_flags, granule, serial, number, parts)))
    return written


def from_ogg(data):
    """The stream of an Ogg file."""
    page, place = read_page(data, 0)
    serial = page.serial
    _check_page(page, 0, serial, 0, False)
    _check_first_packet(page)
    first = page.segments[0]
    packets = []
    packet = []
    goes_on = False
    number = 0
    while page.flags & _LAST == 0:
        at = place
        number += 1
        page, place = read_page(data, at)
        _check_page(page, at, serial, number, goes_on)
        for segment in page.segments:
            packet.extend(segment)
            goes_on = len(segment) == _WHOLE_SEGMENT
            if not goes_on:
                packets.append(packet)
                packet = []
    told = big_number(first, _TOLD, 2)
    if told not in (0, _count_of_blocks(first, packets)):
        raise Disagreement(_PACKET + _TOLD)
    stream = first[_STREAM:]
    for packet in packets:
        stream.extend(packet)
    return stream


def _read_lengths(data, at):
    """The lengths of the segments of the page at a place, which is complete, and the place behind it."""
    start = at + _LENGTHS
    if start > len(data):
        raise Truncated(len(data))
    count = data[at + _COUNT]
    lengths = data[start:start + count]
    behind = start + count + sum(lengths)
    if behind > len(data):
        raise Truncated(len(data))
    return lengths, behind


def _further_blocks(data):
    """The bytes of each metadata block of a stream but the first one, with its head."""
    blocks = []
    place = _FIRST_PART
    is_last = data[len(_STREAM_MARKER)] >= 128
    while not is_last:
        is_last = data[place] >= 128
        behind = place + 4 + big_number(data, place + 1, 3)
        blocks.append(data[place:behind])
        place = behind
    return blocks


def _frames(data, frames):
    """Pairs of the bytes of each frame and the number of the samples up to its end."""
    ends = [place for place, _, _ in frames[1:]] + [len(data)]
    return [(data[place:end], first + size) for (place, first, size), end in zip(frames, ends)]


def _group(packets, most):
    """The pages of a group of packets: their flags, as far as the group decides them, granules and segments.

    A packet is a pair of its bytes and of the granule position of a page on which it is the last one that ends.
    """
    # Pairs of a segment and the granule position behind it, None if its packet goes on.
    segments = []
    for packet, granule in packets:
        parts = lace(packet)
        segments.extend([(part, None) for part in parts[:-1]])
        segments.append((parts[-1], granule))
    pages = []
    goes_on = False
    for at in range(0, len(segments), most):
        own = segments[at:at + most]
        granules = [granule for _, granule in own if granule is not None]
        granule = granules[-1] if len(granules) > 0 else _NO_GRANULE
        pages.append((_GOES_ON if goes_on else 0, granule, [part for part, _ in own]))
        goes_on = own[-1][1] is None
    return pages


def _edge_flags(number, count):
    """The flags that a page has because it is the first one or the last one of so many."""
    return (_FIRST if number == 0 else 0) + (_LAST if number == count - 1 else 0)


def _check_page(page, at, serial, number, goes_on):
    """Raise the errors of a page at a place, as far as the pages before it decide them.

    It must have the serial and the page number, and begin with the rest of a packet if `goes_on` is True.
    """
    if page.serial != serial:
        raise Disagreement(at + _SERIAL)
    if page.number != number:
        raise OutOfOrder(at + _NUMBER)
    still_goes_on = goes_on
    if len(page.segments) > 0:
        still_goes_on = len(page.segments[-1]) == _WHOLE_SEGMENT
    if (
        (page.flags & _FIRST != 0) != (number == 0)
        or (page.flags & _GOES_ON != 0) != goes_on
        or (page.flags & _LAST != 0 and still_goes_on)
    ):
        raise InvalidPage(at + _FLAGS)


def _check_first_packet(page):
    """Raise the errors of the packet that stands alone on the first page."""
    if [len(segment) for segment in page.segments] != [_FIRST_LENGTH]:
        raise InvalidForm(_PACKET)
    packet = page.segments[0]
    if packet[:len(_MAPPING)] != list(_MAPPING):
        raise NotAStream(_PACKET)
    if packet[len(_MAPPING)] != _MAJOR:
        raise ReservedValue(_PACKET + len(_MAPPING))
    if packet[_STREAM:_STREAM + len(_STREAM_MARKER)] != list(_STREAM_MARKER):
        raise NotAStream(_PACKET + _STREAM)


def _count_of_blocks(first, packets):
    """The number of further blocks among the packets behind the first one."""
    if first[_STREAM + len(_STREAM_MARKER)] >= 128:
        return 0
    for at, packet in enumerate(packets):
        if len(packet) > 0 and packet[0] >= 128:
            return at + 1
    return len(packets)
