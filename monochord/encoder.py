"""The encoder: from audio, settings and metadata blocks to a stream."""

from monochord.blocks import blocks_of, write_blocks
from monochord.choice import best_pair, best_subframe
from monochord.comments import Comments
from monochord.digest import md5, sample_bytes
from monochord.frame import write_frame
from monochord.header import FrameHeader
from monochord.layout import block_sizes, block_starts, size_range
from monochord.seektable import points_for
from monochord.stereo import split
from monochord.streaminfo import StreamInfo
from monochord.text import points_of

_STREAMINFO = 0
_SEEKTABLE = 3
_COMMENTS = 4


def encode_frame(audio, start, size, number, settings):
    """The bytes of the frame for `size` samples from the index `start` on."""
    assignment, rows, subframes = _stored(audio.rows(start, start + size), audio.depth, settings)
    header = FrameHeader(
        variable=settings.block_sizes is not None, block_size=size, rate=audio.rate, channels=len(rows),
        assignment=assignment, depth=audio.depth, number=number
    )
    return write_frame(header, rows, subframes)


def encode_frames(audio, settings):
    """The byte lists of all frames."""
    sizes = block_sizes(audio.length(), settings)
    starts = block_starts(sizes)
    # A frame is numbered by its first sample only if the sizes of blocks vary.
    numbers = list(range(len(sizes))) if settings.block_sizes is None else starts
    return [
        encode_frame(audio, start, size, number, settings)
        for start, size, number in zip(starts, sizes, numbers)
    ]


def frame_list(sizes, lengths):
    """The frame list of frames with these block sizes and these lengths in bytes."""
    return list(zip(block_starts(sizes), block_starts(lengths), sizes))


def stream_info(audio, settings, lengths):
    """The StreamInfo of audio whose frames have these lengths in bytes."""
    least_block, greatest_block = size_range(audio.length(), settings)
    return StreamInfo(
        least_block, greatest_block, min(lengths, default=0), max(lengths, default=0), audio.rate,
        len(audio.channels), audio.depth, audio.length(), md5(sample_bytes(audio.channels, audio.depth))
    )


def encode(audio, settings, blocks):
    """The bytes of the stream."""
    frames = encode_frames(audio, settings)
    lengths = [len(frame) for frame in frames]
    listed = frame_list(block_sizes(audio.length(), settings), lengths)
    info = stream_info(audio, settings, lengths)
    data = write_blocks([(_STREAMINFO, info)] + further_blocks(listed, settings, blocks))
    for frame in frames:
        data.extend(frame)
    return data


def further_blocks(frames, settings, blocks):
    """The blocks behind the stream information of a stream with this frame list; `blocks` are the caller's."""
    found = []
    if settings.seek_interval > 0 and len(frames) > 0:
        found.append((_SEEKTABLE, points_for(frames, settings.seek_interval)))
    found.extend(blocks)
    if settings.vendor != "" and len(blocks_of(blocks, _COMMENTS)) == 0:
        found.append((_COMMENTS, Comments(points_of(settings.vendor), [])))
    return found


def _stored(channels, depth, settings):
    """How the channels of a frame are stored: the assignment, its rows and their Subframes."""
    if len(channels) == 2:
        left, right = channels
        assignment, first, second, _ = best_pair(left, right, depth, settings)
        return assignment, list(split(assignment, left, right)), [first, second]
    subframes = [best_subframe(channel, depth, settings)[0] for channel in channels]
    return "independent", channels, subframes
