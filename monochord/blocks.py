"""Metadata blocks: what stands in a stream in front of its frames."""

from monochord.comments import read_comments, write_comments
from monochord.cuesheet import read_cuesheet, write_cuesheet
from monochord.errors import InvalidForm, NotAStream, OutOfOrder, TooLong, Truncated
from monochord.picture import read_application, read_padding, read_picture, write_application, write_picture
from monochord.seektable import read_seektable, write_seektable
from monochord.streaminfo import read_streaminfo, write_streaminfo
from monochord.words import big_bytes, big_number

_MARKER = (102, 76, 97, 67)
_HEAD_LENGTH = 4
_MOST_LENGTH = 16777215
_POINT_LENGTH = 18

_STREAMINFO = 0
_PADDING = 1
_APPLICATION = 2
_SEEKTABLE = 3
_COMMENTS = 4
_CUESHEET = 5
_PICTURE = 6
_NO_KIND = 127

# The kinds of which there is at most one block, besides the first one.
_SINGLE_KINDS = (3, 4)

# The uses of pictures that are icons.
_ICONS = (1, 2)


def read_blocks(data, at=0):
    """The blocks of the metadata that starts at an index, and the place behind them."""
    place = read_marker(data, at)
    blocks = []
    is_last = False
    while not is_last:
        block, is_last, place = read_block(data, place, blocks)
        blocks.append(block)
    return blocks, place


def read_marker(data, at):
    """The place behind the marker that stands at an index."""
    for expected, byte in zip(_MARKER, data[at:at + len(_MARKER)]):
        if byte != expected:
            raise NotAStream(at)
    if at + len(_MARKER) > len(data):
        raise Truncated(len(data))
    return at + len(_MARKER)


def read_block(data, at, earlier):
    """The block whose head starts at an index, whether it is the last one, and the place behind it."""
    start = at + _HEAD_LENGTH
    if start > len(data):
        raise Truncated(len(data))
    is_last = data[at] >= 128
    kind = data[at] & 127
    if kind == _NO_KIND:
        raise InvalidForm(at)
    if not _kind_allowed(kind, earlier):
        raise OutOfOrder(at)
    stop = start + big_number(data, at + 1, 3)
    if stop > len(data):
        raise Truncated(len(data))
    value = _read_body(kind, data, start, stop)
    if kind == _PICTURE and not _picture_allowed(value, earlier):
        raise OutOfOrder(at)
    return (kind, value), is_last, stop


def write_blocks(blocks):
    """The metadata of a regular list of blocks."""
    for at, block in enumerate(blocks):
        if body_length(block) > _MOST_LENGTH:
            raise TooLong(at)
    data = list(_MARKER)
    for at, block in enumerate(blocks):
        kind = block[0]
        body = write_body(block)
        data.append(kind + 128 if at == len(blocks) - 1 else kind)
        data.extend(big_bytes(len(body), 3))
        data.extend(body)
    return data


def write_body(block):
    """The body of one block."""
    kind, value = block
    if kind == _STREAMINFO:
        return write_streaminfo(value)
    if kind == _PADDING:
        return [0] * value
    if kind == _APPLICATION:
        return write_application(value)
    if kind == _SEEKTABLE:
        return write_seektable(value)
    if kind == _COMMENTS:
        return write_comments(value)
    if kind == _CUESHEET:
        return write_cuesheet(value)
    if kind == _PICTURE:
        return write_picture(value)
    return list(value)


def body_length(block):
    """The number of bytes of the body of one block."""
    kind, value = block
    if kind == _PADDING:
        return value
    if kind == _SEEKTABLE:
        return len(value) * _POINT_LENGTH
    return len(write_body(block))


def metadata_bytes(blocks):
    """The number of bytes of the metadata of some blocks, with the marker."""
    return len(_MARKER) + sum([_HEAD_LENGTH + body_length(block) for block in blocks])


def is_regular(blocks):
    """True if the blocks may be the metadata of a stream."""
    kinds = [kind for kind, _ in blocks]
    uses = [picture.use for picture in blocks_of(blocks, _PICTURE)]
    return (
        kinds[:1] == [_STREAMINFO]
        and kinds.count(_STREAMINFO) == 1
        and all([kinds.count(kind) <= 1 for kind in _SINGLE_KINDS])
        and all([uses.count(use) <= 1 for use in _ICONS])
    )


def blocks_of(blocks, kind):
    """The values of all blocks of one kind."""
    return [value for own_kind, value in blocks if own_kind == kind]


def _kind_allowed(kind, earlier):
    """True if a block of this kind may stand behind other blocks."""
    if kind == _STREAMINFO or len(earlier) == 0:
        return kind == _STREAMINFO and len(earlier) == 0
    return kind not in _SINGLE_KINDS or len(blocks_of(earlier, kind)) == 0


def _picture_allowed(picture, earlier):
    """True if a picture may stand behind other blocks: there is at most one of each icon."""
    if picture.use not in _ICONS:
        return True
    return picture.use not in [other.use for other in blocks_of(earlier, _PICTURE)]


def _read_body(kind, data, start, stop):
    """The value of the body of a kind between two places."""
    if kind == _STREAMINFO:
        return read_streaminfo(data, start, stop)
    if kind == _PADDING:
        return read_padding(data, start, stop)
    if kind == _APPLICATION:
        return read_application(data, start, stop)
    if kind == _SEEKTABLE:
        return read_seektable(data, start, stop)
    if kind == _COMMENTS:
        return read_comments(data, start, stop)
    if kind == _CUESHEET:
        return read_cuesheet(data, start, stop)
    if kind == _PICTURE:
        return read_picture(data, start, stop)
    return data[start:stop]
