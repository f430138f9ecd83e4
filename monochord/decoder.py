"""Decoding of byte lists, up to the first fault."""

from monochord.audio import Audio
from monochord.bits import BitReader
from monochord.blocks import read_block, read_marker
from monochord.digest import md5, sample_bytes
from monochord.errors import MonochordError
from monochord.frame import read_frame
from monochord.sequence import check_behind, check_end, fault_behind, no_frames, tells_digest


class Decoded:
    """What a byte list holds in front of its first fault, and that fault."""

    def __init__(self, info, blocks, audio, frames, fault):
        self.info = info
        self.blocks = blocks
        self.audio = audio
        self.frames = frames
        self.fault = fault


def decode(data):
    """The Decoded of a byte list."""
    blocks, place, fault = _decode_blocks(data)
    if len(blocks) == 0:
        return Decoded(None, [], Audio(0, 4, [[]]), [], fault)
    info = blocks[0][1]
    frames = []
    channels = [[] for _ in range(info.channel_count)]
    if fault is None:
        frames, channels, fault = _decode_frames(data, place, info)
    return Decoded(info, blocks, Audio(info.rate, info.depth, channels), frames, fault)


def check_frame(info, earlier, header, length):
    """The name of the fault of a frame behind earlier ones, pairs of a strategy and a block size, or None."""
    told = no_frames()
    for variable, size in earlier:
        told = told.followed_by(variable, size)
    return fault_behind(info, told, header, length)


def _decode_blocks(data):
    """The metadata blocks in front of the first fault, the place behind them, and their fault or None."""
    blocks = []
    place = 0
    try:
        place = read_marker(data, 0)
        is_last = False
        while not is_last:
            block, is_last, place = read_block(data, place, blocks)
            blocks.append(block)
    except MonochordError as error:
        return blocks, place, (error.name, error.place)
    return blocks, place, None


def _decode_frames(data, start, info):
    """The frames from a place on in front of the first fault, their channels, and that fault or None."""
    frames = []
    channels = [[] for _ in range(info.channel_count)]
    reader = BitReader(data, start)
    earlier = no_frames()
    try:
        while reader.byte_place() < len(data):
            place = reader.byte_place()
            header, rows, _ = read_frame(reader, info.rate, info.depth)
            check_behind(info, earlier, header, reader.byte_place() - place, place)
            frames.append((place, earlier.samples, header.block_size))
            for channel, row in zip(channels, rows):
                channel.extend(row)
            earlier = earlier.followed_by(header.variable, header.block_size)
        digest = md5(sample_bytes(channels, info.depth)) if tells_digest(info) else []
        check_end(info, earlier.samples, digest, len(data))
    except MonochordError as error:
        return frames, channels, (error.name, error.place)
    return frames, channels, None
