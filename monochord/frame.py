"""Frames: the samples of all channels of one block."""

from monochord.bits import BitWriter
from monochord.checksums import crc16
from monochord.errors import FrameChecksum, OutOfRange
from monochord.header import header_bytes, read_header, write_header
from monochord.stereo import join, row_depths
from monochord.subframe import read_subframe, subframe_bits, write_subframe


def write_frame(header, rows, subframes):
    """The bytes of a frame."""
    writer = BitWriter()
    writer.append_bytes(write_header(header))
    depths = row_depths(header.assignment, header.depth, len(rows))
    for depth, row, subframe in zip(depths, rows, subframes):
        write_subframe(writer, depth, row, subframe)
    writer.pad()
    writer.write(16, crc16(writer.byte_list()))
    return writer.byte_list()


def read_frame(reader, rate, depth):
    """The FrameHeader, the channels and the Subframes of the frame at the position of a reader."""
    start = reader.byte_place()
    header = read_header(reader, rate, depth)
    rows = []
    subframes = []
    for row_depth in row_depths(header.assignment, header.depth, header.channels):
        row, subframe = read_subframe(reader, row_depth, header.block_size)
        rows.append(row)
        subframes.append(subframe)
    reader.skip_padding()
    _read_checksum(reader, start)
    return header, _channels(header, rows, start), subframes


def frame_bytes(header, rows, subframes):
    """The number of bytes of a frame."""
    bits = 0
    depths = row_depths(header.assignment, header.depth, len(rows))
    for depth, row, subframe in zip(depths, rows, subframes):
        bits += subframe_bits(depth, row, subframe)
    return header_bytes(header) + (bits + 7) // 8 + 2


def _read_checksum(reader, start):
    """Read the checksum of the frame that begins at the byte `start`."""
    place = reader.byte_place()
    expected = crc16(reader.since(start))
    if reader.read(16) != expected:
        raise FrameChecksum(place)


def _channels(header, rows, start):
    """The channels that the rows of the frame at the byte `start` hold."""
    if header.assignment == "independent":
        return rows
    left, right = join(header.assignment, rows[0], rows[1])
    if _fits(header.depth, left) and _fits(header.depth, right):
        return [left, right]
    raise OutOfRange(start)


def _fits(depth, samples):
    """True if each sample is a signed number of so many bits."""
    limit = 1 << (depth - 1)
    return -limit <= min(samples) and max(samples) < limit
