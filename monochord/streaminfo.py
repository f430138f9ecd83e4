"""Stream information: what holds for all frames of a stream."""

from monochord.bits import BitReader, BitWriter
from monochord.errors import Disagreement, InvalidForm

_LENGTH = 34
_LEAST_BLOCK = 16
_LEAST_DEPTH = 4


class StreamInfo:
    """The sizes of blocks and frames, the form of the samples, their number and their digest."""

    def __init__(
        self, least_block, greatest_block, least_frame, greatest_frame, rate, channel_count, depth, length, digest
    ):
        self.least_block = least_block
        self.greatest_block = greatest_block
        self.least_frame = least_frame
        self.greatest_frame = greatest_frame
        self.rate = rate
        self.channel_count = channel_count
        self.depth = depth
        self.length = length
        self.digest = list(digest)

    def fields(self):
        """All attributes, with a new digest."""
        return (
            self.least_block,
            self.greatest_block,
            self.least_frame,
            self.greatest_frame,
            self.rate,
            self.channel_count,
            self.depth,
            self.length,
            list(self.digest),
        )

    def fixed_size(self):
        """True if all blocks have the same size, except a shorter last one."""
        return self.least_block == self.greatest_block

    def __eq__(self, other):
        return isinstance(other, StreamInfo) and self.fields() == other.fields()


def read_streaminfo(data, start, stop):
    """The StreamInfo of the body from the index `start` up to, but not including, `stop`."""
    if stop - start != _LENGTH:
        raise InvalidForm(start)
    reader = BitReader(data[start:stop])
    least_block = reader.read(16)
    greatest_block = reader.read(16)
    least_frame = reader.read(24)
    greatest_frame = reader.read(24)
    rate = reader.read(20)
    channel_count = reader.read(3) + 1
    depth = reader.read(5) + 1
    length = reader.read(36)
    digest = reader.read_bytes(16)
    _check_blocks(least_block, greatest_block, start)
    if least_frame > greatest_frame > 0:
        raise Disagreement(start + 7)
    if depth < _LEAST_DEPTH:
        raise InvalidForm(start + 12)
    return StreamInfo(
        least_block, greatest_block, least_frame, greatest_frame, rate, channel_count, depth, length, digest
    )


def write_streaminfo(info):
    """The body of a StreamInfo."""
    writer = BitWriter()
    writer.write(16, info.least_block)
    writer.write(16, info.greatest_block)
    writer.write(24, info.least_frame)
    writer.write(24, info.greatest_frame)
    writer.write(20, info.rate)
    writer.write(3, info.channel_count - 1)
    writer.write(5, info.depth - 1)
    writer.write(36, info.length)
    writer.append_bytes(info.digest)
    return writer.byte_list()


def _check_blocks(least_block, greatest_block, start):
    """Raise the errors of the block sizes of the body that begins at the index `start`."""
    if least_block < _LEAST_BLOCK:
        raise InvalidForm(start)
    if greatest_block < _LEAST_BLOCK:
        raise InvalidForm(start + 2)
    if least_block > greatest_block:
        raise Disagreement(start + 2)
