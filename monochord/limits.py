"""Limits of the encoded length, which depend on sizes alone."""

from monochord.blocks import metadata_bytes
from monochord.encoder import frame_list, further_blocks
from monochord.layout import block_sizes

# The head and the body of the stream information.
_INFO_BYTES = 38

# The header of a frame and its checksum.
_FRAME_BYTES = 18


def frame_limit(size, channels, depth):
    """The limit of the bytes of a frame."""
    return _FRAME_BYTES + channels + (channels * size * depth + 7) // 8


def stream_metadata_length(length, settings, blocks):
    """The number of bytes ahead of the first frame of a stream with so many samples per channel."""
    sizes = block_sizes(length, settings)
    # The number of seek points does not depend on the lengths of the frames.
    frames = frame_list(sizes, [0] * len(sizes))
    return _INFO_BYTES + metadata_bytes(further_blocks(frames, settings, blocks))


def stream_limit(length, channels, depth, settings, blocks):
    """The limit of the bytes of a stream."""
    limits = [frame_limit(size, channels, depth) for size in block_sizes(length, settings)]
    return stream_metadata_length(length, settings, blocks) + sum(limits)
