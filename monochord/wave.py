"""Wave files."""

from monochord.audio import Audio
from monochord.errors import (
    Disagreement, InvalidForm, NotAStream, OutOfOrder, OutOfRange, ReservedValue, Truncated,
)
from monochord.words import little_bytes, little_number

_RIFF = (82, 73, 70, 70)
_WAVE = (87, 65, 86, 69)
_FORM = (102, 109, 116, 32)
_DATA = (100, 97, 116, 97)

_FILE_HEAD = 12
_CHUNK_HEAD = 8

# The first numbers of a format chunk, and how many bytes it has at least with each of them.
_PLAIN = 1
_EXTENDED = 65534
_PLAIN_LENGTH = 16
_EXTENDED_LENGTH = 40

# Where the fields of a format chunk stand.
_CHANNELS = 2
_RATE = 4
_ROW_BYTES = 12
_SAMPLE_BITS = 14
_DEPTH = 18
_SIGN = 24

# The last bytes of a longer format chunk.
_SIGN_BYTES = (1, 0, 0, 0, 0, 0, 16, 0, 128, 0, 0, 170, 0, 56, 155, 113)

_MOST_RATE = 1048575
_SAMPLE_SIZES = (8, 16, 24, 32)


def write_wave(audio):
    """The wave file of an Audio."""
    content = _chunk(_FORM, _form_content(audio)) + _chunk(_DATA, _data_content(audio))
    return list(_RIFF) + little_bytes(len(_WAVE) + len(content), 4) + list(_WAVE) + content


def read_wave(data):
    """The Audio of a wave file."""
    if len(data) < _FILE_HEAD:
        raise Truncated(len(data))
    for place, expected in ((0, _RIFF), (8, _WAVE)):
        if data[place:place + 4] != list(expected):
            raise NotAStream(place)
    form = None
    place = _FILE_HEAD
    while True:
        name, start, stop = _read_chunk(data, place)
        if name == list(_DATA):
            if form is None:
                raise OutOfOrder(place)
            return _read_samples(data, start, stop, form)
        if name == list(_FORM):
            if form is not None:
                raise OutOfOrder(place)
            form = _read_form(data, start, stop)
        # A zero byte stands behind a content of odd length.
        place = stop + (stop - start) % 2


def _sample_bytes(depth):
    """The number of bytes of a sample."""
    return (depth + 7) // 8


def _chunk(name, content):
    """The bytes of a chunk."""
    return list(name) + little_bytes(len(content), 4) + content + [0] * (len(content) % 2)


def _form_content(audio):
    """The content of the format chunk."""
    count = len(audio.channels)
    size = _sample_bytes(audio.depth)
    is_plain = audio.depth % 8 == 0 and count <= 2
    data = little_bytes(_PLAIN if is_plain else _EXTENDED, 2) + little_bytes(count, 2) + little_bytes(audio.rate, 4)
    data.extend(little_bytes(audio.rate * count * size, 4))
    data.extend(little_bytes(count * size, 2))
    data.extend(little_bytes(8 * size, 2))
    if not is_plain:
        data.extend(little_bytes(22, 2) + little_bytes(audio.depth, 2) + little_bytes(0, 4) + list(_SIGN_BYTES))
    return data


def _data_content(audio):
    """The content of the data chunk."""
    size = _sample_bytes(audio.depth)
    shift = 8 * size - audio.depth
    # The numbers of one byte have no sign.
    middle = 128 if size == 1 else 0
    data = []
    for row in zip(*audio.channels):
        for sample in row:
            data.extend(little_bytes((sample << shift) + middle, size))
    return data


def _read_chunk(data, place):
    """The name of the chunk at a place, and where its content begins and ends."""
    start = place + _CHUNK_HEAD
    if start > len(data):
        raise Truncated(len(data))
    stop = start + little_number(data, place + 4, 4)
    if stop > len(data):
        raise Truncated(len(data))
    return data[place:place + 4], start, stop


def _read_form(data, start, stop):
    """The rate, the number of channels and the depth that the content of a format chunk tells."""
    if stop - start < _PLAIN_LENGTH:
        raise InvalidForm(start - 4)
    first = little_number(data, start, 2)
    if first not in (_PLAIN, _EXTENDED):
        raise ReservedValue(start)
    if first == _EXTENDED and stop - start < _EXTENDED_LENGTH:
        raise InvalidForm(start - 4)
    count = little_number(data, start + _CHANNELS, 2)
    if count < 1 or count > 8:
        raise OutOfRange(start + _CHANNELS)
    rate = little_number(data, start + _RATE, 4)
    if rate > _MOST_RATE:
        raise OutOfRange(start + _RATE)
    bits = little_number(data, start + _SAMPLE_BITS, 2)
    if bits not in _SAMPLE_SIZES:
        raise ReservedValue(start + _SAMPLE_BITS)
    if little_number(data, start + _ROW_BYTES, 2) != count * bits // 8:
        raise Disagreement(start + _ROW_BYTES)
    depth = bits if first == _PLAIN else _read_depth(data, start, bits)
    return rate, count, depth


def _read_depth(data, start, bits):
    """The depth that the content of a longer format chunk tells for samples that are stored in so many bits."""
    depth = little_number(data, start + _DEPTH, 2)
    if depth < 4 or depth > 32 or 8 * _sample_bytes(depth) != bits:
        raise OutOfRange(start + _DEPTH)
    if data[start + _SIGN:start + _EXTENDED_LENGTH] != list(_SIGN_BYTES):
        raise ReservedValue(start + _SIGN)
    return depth


def _read_samples(data, start, stop, form):
    """The Audio of the content of a data chunk; `form` is the rate, the number of channels and the depth."""
    rate, count, depth = form
    size = _sample_bytes(depth)
    if (stop - start) % (count * size) != 0:
        raise Disagreement(start - 4)
    samples = [_read_sample(data, place, size, depth) for place in range(start, stop, size)]
    return Audio(rate, depth, [samples[at::count] for at in range(count)])


def _read_sample(data, place, size, depth):
    """The sample of a depth that is stored in so many bytes at a place."""
    number = little_number(data, place, size)
    shift = 8 * size - depth
    if number & ((1 << shift) - 1) != 0:
        raise InvalidForm(place)
    if size == 1:
        return (number - 128) >> shift
    if number >= 1 << (8 * size - 1):
        number -= 1 << (8 * size)
    return number >> shift
