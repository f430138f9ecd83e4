"""Editing of the metadata of streams."""

from monochord.blocks import body_length, is_regular, metadata_bytes, read_blocks, write_blocks
from monochord.comments import Comments
from monochord.errors import InvalidEdit

_MOST_LENGTH = 16777215
_HEAD_LENGTH = 4
_PADDING = 1
_COMMENTS = 4


def apply_act(blocks, act):
    """The blocks that an act gives, a new list."""
    return _acted(blocks, act, 0)


def edit(data, acts, reserve=None):
    """The edited stream."""
    blocks, place = read_blocks(data)
    for at, act in enumerate(acts):
        blocks = _acted(blocks, act, at)
    if reserve is not None:
        blocks = _with_reserve(blocks, place, reserve)
    return write_blocks(blocks) + data[place:]


def metadata_length(data):
    """The number of bytes of the metadata of a stream, with the marker."""
    _, place = read_blocks(data)
    return place


def frame_bytes(data):
    """The bytes behind the metadata of a stream, a new list."""
    return data[metadata_length(data):]


def _acted(blocks, act, place):
    """The blocks that an act gives, a new list; the error of an act that is not possible has this place."""
    word = act[0]
    if word == "tag":
        found = _tagged(blocks, act[1], act[2], place)
    elif word == "insert":
        _check_index(act[1], len(blocks), place)
        _check_length(act[2], place)
        found = _with_block(blocks, act[1], act[2])
    else:
        index = act[1]
        _check_index(index, len(blocks) - 1, place)
        found = blocks[:index] + blocks[index + 1:]
        if word == "replace":
            _check_length(act[2], place)
            found = _with_block(found, index, act[2])
        elif word == "move":
            _check_index(act[2], len(blocks) - 1, place)
            found = _with_block(found, act[2], blocks[index])
    if not is_regular(found):
        raise InvalidEdit(place)
    return found


def _check_index(index, most, place):
    """Raise the error if an index is not from 1 to the greatest one."""
    if index < 1 or index > most:
        raise InvalidEdit(place)


def _check_length(block, place):
    """Raise the error if the body of a new block is too long."""
    if body_length(block) > _MOST_LENGTH:
        raise InvalidEdit(place)


def _with_block(blocks, index, block):
    """The blocks with one more in front of the one at an index, or at the end, a new list."""
    return blocks[:index] + [block] + blocks[index:]


def _tagged(blocks, name, values, place):
    """The blocks with other values of a name in their comments, a new list."""
    kinds = [kind for kind, _ in blocks]
    if _COMMENTS not in kinds:
        index = 1
        behind = blocks[1:]
        comments = Comments([], [(name, value) for value in values])
    else:
        index = kinds.index(_COMMENTS)
        behind = blocks[index + 1:]
        comments = blocks[index][1].with_values(name, values)
    _check_length((_COMMENTS, comments), place)
    return blocks[:index] + [(_COMMENTS, comments)] + behind


def _with_reserve(blocks, old, reserve):
    """The blocks with padding that keeps the old number of bytes of the metadata, or else with the reserve."""
    kept = [block for block in blocks if block[0] != _PADDING]
    gap = old - metadata_bytes(kept)
    if gap == 0:
        return kept
    if gap >= _HEAD_LENGTH:
        return kept + [(_PADDING, min(gap - _HEAD_LENGTH, _MOST_LENGTH))]
    return kept + [(_PADDING, reserve)]
