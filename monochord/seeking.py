"""Finding samples in streams, and the frames of damaged streams."""

from monochord.bits import BitReader
from monochord.blocks import blocks_of, read_blocks
from monochord.errors import Disagreement, MonochordError
from monochord.frame import read_frame
from monochord.header import read_header
from monochord.sequence import has_form

_SEEKTABLE = 3


def first_sample(header, first_header):
    """The index of the first sample that a header tells in a stream with this first header."""
    if first_header.variable:
        return header.number
    return header.number * first_header.block_size


def start_point(data, sample):
    """The place and the first sample at which the search for a sample starts."""
    blocks, place = read_blocks(data)
    return _start_behind(data, blocks, place, sample)


def find_frame(data, sample):
    """The place, the first sample and the block size of the frame that contains a sample, or None."""
    blocks, place = read_blocks(data)
    info = blocks[0][1]
    place, first = _start_behind(data, blocks, place, sample)
    while place < len(data):
        header, _, behind = _frame_at(data, place, info)
        if sample < first + header.block_size:
            return place, first, header.block_size
        first += header.block_size
        place = behind
    return None


def decode_from(data, sample):
    """For each channel, its samples from an index on."""
    blocks, place = read_blocks(data)
    info = blocks[0][1]
    channels = [[] for _ in range(info.channel_count)]
    place, first = _start_behind(data, blocks, place, sample)
    while place < len(data):
        header, rows, behind = _frame_at(data, place, info)
        if sample < first + header.block_size:
            if header.channels != info.channel_count:
                raise Disagreement(place)
            for channel, row in zip(channels, rows):
                channel.extend(row[max(0, sample - first):])
        first += header.block_size
        place = behind
    return channels


def salvage(data):
    """The frames that can be read: their places, the first samples that they tell, their block sizes."""
    blocks, place = read_blocks(data)
    info = blocks[0][1]
    kept = []
    first_header = None
    while place < len(data):
        header, behind = _frame_of_stream(data, place, info, first_header)
        if header is None:
            place += 1
        else:
            if first_header is None:
                first_header = header
            kept.append((place, first_sample(header, first_header), header.block_size))
            place = behind
    return kept


def _start_behind(data, blocks, place, sample):
    """The start of the search in a stream with these blocks, whose first frame stands at a place."""
    info = blocks[0][1]
    first_header = _header_at(data, place, info)
    if first_header is None:
        return place, 0
    points = [point for table in blocks_of(blocks, _SEEKTABLE) for point in table if point is not None]
    for point in reversed(points):
        if point[0] <= sample and _is_usable(data, point, place, info, first_header):
            return place + point[1], point[0]
    return place, 0


def _is_usable(data, point, start, info, first_header):
    """True if the frame of a seek point stands where the point tells; the first frame stands at `start`."""
    header = _header_at(data, start + point[1], info)
    return (
        header is not None
        and _belongs(header, info, first_header)
        and first_sample(header, first_header) == point[0]
    )


def _header_at(data, place, info):
    """The frame header at a place, or None if none can be read there."""
    if place > len(data):
        return None
    try:
        return read_header(BitReader(data, place), info.rate, info.depth)
    except MonochordError:
        return None


def _belongs(header, info, first_header):
    """True if a header belongs to a stream; before the first header is known, any strategy does."""
    if first_header is not None and header.variable != first_header.variable:
        return False
    return has_form(header, info)


def _frame_at(data, place, info):
    """The header and the channels of the frame at a place, and the place behind it."""
    reader = BitReader(data, place)
    header, rows, _ = read_frame(reader, info.rate, info.depth)
    return header, rows, reader.byte_place()


def _frame_of_stream(data, place, info, first_header):
    """The header of the frame at a place and the place behind it, or None twice if none of the stream is there."""
    try:
        header, _, behind = _frame_at(data, place, info)
    except MonochordError:
        return None, None
    if _belongs(header, info, first_header):
        return header, behind
    return None, None
