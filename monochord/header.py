"""Frame headers: what a frame tells about its samples."""

from monochord.bits import BitWriter
from monochord.checksums import crc8
from monochord.coded import read_number, write_number
from monochord.errors import HeaderChecksum, InvalidForm, LostSync, ReservedValue

_SYNC_CODE = 16382

# What the codes of three fields stand for. None is a code that stands for no number of its own.
_BLOCK_SIZES = (None, 192, 576, 1152, 2304, 4608, None, None, 256, 512, 1024, 2048, 4096, 8192, 16384, 32768)
_RATES = (
    None, 88200, 176400, 192000, 8000, 16000, 22050, 24000, 32000, 44100, 48000, 96000, None, None, None, None,
)
_DEPTHS = (None, 8, 12, None, 16, 20, 24, 32)

# The channel codes 8, 9 and 10.
_STEREO = ("left-side", "side-right", "mid-side")

_MOST_BLOCK_SIZE = 65535
_MOST_FRAMES = 2147483647
_MOST_SAMPLES = 68719476735


class FrameHeader:
    """What a frame tells about its samples."""

    def __init__(self, *, variable, block_size, rate, channels, assignment, depth, number):
        self.variable = variable
        self.block_size = block_size
        self.rate = rate
        self.channels = channels
        self.assignment = assignment
        self.depth = depth
        self.number = number

    def __eq__(self, other):
        return (
            isinstance(other, FrameHeader)
            and self.variable == other.variable
            and self.block_size == other.block_size
            and self.rate == other.rate
            and self.channels == other.channels
            and self.assignment == other.assignment
            and self.depth == other.depth
            and self.number == other.number
        )


def write_header(header):
    """The bytes of a header with its checksum."""
    size_code = _size_code(header.block_size)
    rate_code = _rate_code(header.rate)
    writer = BitWriter()
    writer.write(14, _SYNC_CODE)
    writer.write(1, 0)
    writer.write(1, int(header.variable))
    writer.write(4, size_code)
    writer.write(4, rate_code)
    writer.write(4, _channel_code(header))
    writer.write(3, _depth_code(header.depth))
    writer.write(1, 0)
    writer.append_bytes(write_number(header.number))
    _write_block_size(writer, size_code, header.block_size)
    _write_rate(writer, rate_code, header.rate)
    data = writer.byte_list()
    return data + [crc8(data)]


def read_header(reader, rate, depth):
    """The FrameHeader at the position of a reader; the rate and the depth are those of the stream info."""
    start = reader.byte_place()
    _read_sync(reader)
    variable = reader.read(1) == 1
    size_code = _read_size_code(reader)
    rate_code = _read_rate_code(reader)
    channels, assignment = _read_channels(reader)
    own_depth = _read_depth(reader, depth)
    _read_zero_bit(reader)
    number = _read_frame_number(reader, variable)
    block_size = _read_block_size(reader, size_code)
    own_rate = _read_rate(reader, rate_code, rate)
    _read_checksum(reader, start)
    return FrameHeader(
        variable=variable, block_size=block_size, rate=own_rate, channels=channels, assignment=assignment,
        depth=own_depth, number=number
    )


def header_bytes(header):
    """The number of bytes of a header with its checksum."""
    return len(write_header(header))


def _size_code(block_size):
    """The code with which a block size is written."""
    if block_size in _BLOCK_SIZES:
        return _BLOCK_SIZES.index(block_size)
    if block_size <= 256:
        return 6
    return 7


def _rate_code(rate):
    """The code with which a rate is written."""
    if rate in _RATES:
        return _RATES.index(rate)
    if rate > 0 and rate % 1000 == 0 and rate <= 255000:
        return 12
    if 1 <= rate <= 65535:
        return 13
    if rate > 0 and rate % 10 == 0 and rate <= 655350:
        return 14
    return 0


def _channel_code(header):
    """The code with which the channels and their assignment are written."""
    if header.assignment in _STEREO:
        return 8 + _STEREO.index(header.assignment)
    return header.channels - 1


def _depth_code(depth):
    """The code with which a depth is written."""
    if depth in _DEPTHS:
        return _DEPTHS.index(depth)
    return 0


def _write_block_size(writer, code, block_size):
    """Append the block size, if its code asks for it."""
    if code == 6:
        writer.write(8, block_size - 1)
    elif code == 7:
        writer.write(16, block_size - 1)


def _write_rate(writer, code, rate):
    """Append the rate, if its code asks for it."""
    if code == 12:
        writer.write(8, rate // 1000)
    elif code == 13:
        writer.write(16, rate)
    elif code == 14:
        writer.write(16, rate // 10)


def _read_sync(reader):
    """Read the sync code and the zero bit behind it."""
    place = reader.byte_place()
    if reader.read(14) != _SYNC_CODE:
        raise LostSync(place)
    place = reader.byte_place()
    if reader.read(1) == 1:
        raise LostSync(place)


def _read_size_code(reader):
    """The block size code."""
    place = reader.byte_place()
    code = reader.read(4)
    if code == 0:
        raise ReservedValue(place)
    return code


def _read_rate_code(reader):
    """The rate code."""
    place = reader.byte_place()
    code = reader.read(4)
    if code == 15:
        raise InvalidForm(place)
    return code


def _read_channels(reader):
    """The number of channels and their assignment."""
    place = reader.byte_place()
    code = reader.read(4)
    if code < 8:
        return code + 1, "independent"
    if code > 10:
        raise ReservedValue(place)
    return 2, _STEREO[code - 8]


def _read_depth(reader, depth):
    """The depth, which is the given one if the code tells none."""
    place = reader.byte_place()
    code = reader.read(3)
    if code == 3:
        raise ReservedValue(place)
    if code == 0:
        return depth
    return _DEPTHS[code]


def _read_zero_bit(reader):
    """Read the zero bit behind the depth."""
    place = reader.byte_place()
    if reader.read(1) == 1:
        raise ReservedValue(place)


def _read_frame_number(reader, variable):
    """The number of the frame, or of its first sample."""
    place = reader.byte_place()
    number = read_number(reader)
    most = _MOST_SAMPLES if variable else _MOST_FRAMES
    if number > most:
        raise InvalidForm(place)
    return number


def _read_block_size(reader, code):
    """The block size that the code stands for, or that follows."""
    place = reader.byte_place()
    if code == 6:
        return reader.read(8) + 1
    if code != 7:
        return _BLOCK_SIZES[code]
    block_size = reader.read(16) + 1
    if block_size > _MOST_BLOCK_SIZE:
        raise InvalidForm(place)
    return block_size


def _read_rate(reader, code, rate):
    """The rate that the code stands for, or that follows, or the given one if the code tells none."""
    if code == 0:
        return rate
    if code == 12:
        return reader.read(8) * 1000
    if code == 13:
        return reader.read(16)
    if code == 14:
        return reader.read(16) * 10
    return _RATES[code]


def _read_checksum(reader, start):
    """Read the checksum of the header that begins at the byte `start`."""
    place = reader.byte_place()
    expected = crc8(reader.since(start))
    if reader.read(8) != expected:
        raise HeaderChecksum(place)
