"""Streams for the tests: audio of many forms, frames and metadata of any kind, and streams with a fault."""

import hashlib

from monochord.audio import Audio
from monochord.blocks import write_blocks
from monochord.comments import Comments
from monochord.cuesheet import CueSheet, CueTrack
from monochord.frame import write_frame
from monochord.header import FrameHeader
from monochord.picture import Picture
from monochord.streaminfo import StreamInfo
from monochord.subframe import Subframe
from monochord.stereo import split

# Rates with and without a code in the frame header.
RATES = (0, 1, 8000, 44100, 96000, 255000, 256000, 65535, 65536, 655350, 655360, 1048575)

BLOCKS = (
    (1, 0), (1, 7), (2, (258, [1, 2])), (4, Comments([86, 233], [([65], [8364]), ([97], [])])),
    (5, CueSheet([], 0, False, [
        CueTrack(0, 1, [], True, False, [(0, 1)]), CueTrack(1000, 255, [], True, False, []),
    ])),
    (6, Picture(3, [97], [233], 1, 2, 24, 0, [9, 8])), (7, [1, 2, 3]), (126, []),
)


def ends_of(depth):
    """The smallest and the largest sample of a depth."""
    return -(2 ** (depth - 1)), 2 ** (depth - 1) - 1


def any_channel(pick, length, depth):
    """A channel: noise, a curve, extreme samples, few values, or all samples equal."""
    low, high = ends_of(depth)
    kind = pick.randrange(5)
    if kind == 0:
        return [pick.randint(low, high) for _ in range(length)]
    if kind == 1:
        value, samples = 0, []
        for _ in range(length):
            value = max(low, min(high, value + pick.randint(-3, 3)))
            samples.append(value)
        return samples
    if kind == 2:
        return [pick.choice([low, high]) for _ in range(length)]
    if kind == 3:
        return [pick.choice([0, 0, 4, -8]) for _ in range(length)]
    return [pick.choice([low, high, 0])] * length


def any_audio(pick, depth, count, length, rate=8000):
    """Audio of a form."""
    channels = [any_channel(pick, length, depth) for _ in range(count)]
    if count == 2 and pick.random() < 0.5:
        channels[1] = [max(ends_of(depth)[0], sample - pick.randint(0, 1)) for sample in channels[0]]
    return Audio(rate, depth, channels)


def digest_of(channels, depth):
    """The digest of samples, by Python's own MD5."""
    width = (depth + 7) // 8
    data = b"".join(
        (sample % 256 ** width).to_bytes(width, "little") for row in zip(*channels) for sample in row
    )
    return list(hashlib.md5(data).digest())


def header_of(**changed):
    """A FrameHeader."""
    attributes = {
        "variable": False, "block_size": 16, "rate": 8000, "channels": 2, "assignment": "independent", "depth": 8,
        "number": 0,
    }
    return FrameHeader(**{**attributes, **changed})


def frame_of(rows, **changed):
    """The bytes of a frame of verbatim subframes; the block size and the channels are those of the rows."""
    header = header_of(**{"block_size": len(rows[0]), "channels": len(rows), **changed})
    stored = rows
    if header.assignment != "independent":
        stored = list(split(header.assignment, *rows))
    return write_frame(header, stored, [Subframe("verbatim")] * len(rows))


def info_of(**changed):
    """A StreamInfo."""
    attributes = {
        "least_block": 16, "greatest_block": 16, "least_frame": 0, "greatest_frame": 0, "rate": 8000,
        "channel_count": 2, "depth": 8, "length": 0, "digest": [0] * 16,
    }
    return StreamInfo(**{**attributes, **changed})


def ramp(size, count=2, start=0):
    """Rows of samples."""
    return [[(start + 3 * at + 40 * row) % 100 - 50 for at in range(size)] for row in range(count)]


def stream_of(sizes, *, variable=False, blocks=(), frames=None, **changed):
    """A stream with frames of these sizes, and its samples; `frames` changes headers, by their indexes."""
    count = changed.get("channel_count", 2)
    data, channels, start = [], [[] for _ in range(count)], 0
    for at, size in enumerate(sizes):
        own = {
            "variable": variable, "number": start if variable else at, "rate": changed.get("rate", 8000),
            "depth": changed.get("depth", 8), **(frames or {}).get(at, {}),
        }
        rows = ramp(size, own.pop("channels", count), start)
        data += frame_of(rows, **own)
        for channel, row in zip(channels, rows):
            channel += row
        start += size
    return write_blocks([(0, info_of(**changed)), *blocks]) + data, channels


def places_of(sizes, **more):
    """The places of the frames of such a stream, and its length."""
    return [len(stream_of(sizes[:at], **more)[0]) for at in range(len(sizes) + 1)]


def faulty_streams():
    """Streams with one fault each, as tuples of a name, the bytes, the fault and the number of frames before it."""
    found = []

    def add(name, fault, before, sizes, **more):
        place = places_of(sizes, **more)[before]
        found.append((name, stream_of(sizes, **more)[0], (fault, place), before))

    sizes = [16, 16, 16, 5]
    add("number", "OutOfOrder", 2, sizes, frames={2: {"number": 3}})
    add("number of the first frame", "OutOfOrder", 0, sizes, frames={0: {"number": 1}})
    add("number again", "OutOfOrder", 1, sizes, frames={1: {"number": 0}})
    add("sample number", "OutOfOrder", 1, sizes, variable=True, frames={1: {"number": 15}})
    add("frame number in place of a sample number", "OutOfOrder", 1, sizes, variable=True, frames={1: {"number": 1}})
    add("strategy", "Disagreement", 1, sizes, frames={1: {"variable": True, "number": 16}})
    add("other strategy", "Disagreement", 3, sizes, variable=True, frames={3: {"variable": False, "number": 3}})
    add("rate", "Disagreement", 1, sizes, frames={1: {"rate": 8001}})
    add("rate of the first frame", "Disagreement", 0, sizes, rate=0, frames={0: {"rate": 8000}})
    add("fewer channels", "Disagreement", 2, sizes, frames={2: {"channels": 1}})
    add("more channels", "Disagreement", 0, sizes, frames={0: {"channels": 3}})
    add("depth", "Disagreement", 1, sizes, frames={1: {"depth": 16}})
    add("size beyond the largest", "Disagreement", 0, [17, 17])
    add("size beyond the largest, later", "Disagreement", 1, [20, 41], variable=True, greatest_block=40)
    add("an earlier size below the smallest", "Disagreement", 1, [15, 15, 15])
    add("an earlier size below the smallest, later", "Disagreement", 3, [20, 20, 19, 20], variable=True,
        least_block=20, greatest_block=20)
    add("another size", "Disagreement", 3, [20, 20, 18, 18], greatest_block=20)
    add("another size, then the first one again", "Disagreement", 2, [20, 18, 20], greatest_block=20)
    add("a larger size", "Disagreement", 2, [18, 18, 19], greatest_block=20)
    length = len(frame_of(ramp(16)))
    add("too many bytes", "Disagreement", 0, sizes, greatest_frame=length - 1)
    add("too few bytes", "Disagreement", 3, sizes, least_frame=length, greatest_frame=length)
    add("too few bytes, no bound above", "Disagreement", 0, sizes, least_frame=length + 1)
    add("more samples than the total", "Disagreement", 3, sizes, length=52)
    add("more samples than the total, at once", "Disagreement", 0, sizes, length=1)
    add("both", "OutOfOrder", 1, sizes, frames={1: {"number": 7, "rate": 8001}})
    add("fewer samples than the total", "Disagreement", 4, sizes, length=54)
    add("no samples, but a total", "Disagreement", 0, [], length=1)
    add("digest", "DigestMismatch", 4, sizes, digest=[1] * 16)
    add("digest without samples", "DigestMismatch", 0, [], digest=[7] * 16)
    add("total and digest", "Disagreement", 4, sizes, length=54, digest=[1] * 16)
    return found + damaged_streams()


def damaged_streams():
    """Streams with a fault in a field of a frame or of the metadata, in the same form."""
    sizes = [16, 16, 5]
    whole = stream_of(sizes, blocks=[(1, 2), (7, [1, 2])])[0]
    places = places_of(sizes, blocks=[(1, 2), (7, [1, 2])])
    second, third, end = places[1:]
    found = []

    def add(name, fault, place, before, changes, data=whole):
        changed = list(data)
        for at, byte in changes:
            changed[at] = byte
        found.append((name, changed, (fault, place), before))

    add("marker", "NotAStream", 0, 0, [(3, 68)])
    add("kind 127", "InvalidForm", 42, 0, [(42, 127)])
    add("first kind", "OutOfOrder", 4, 0, [(4, 1)])
    add("second stream info", "OutOfOrder", 48, 0, [(48, 0)])
    add("stream info", "InvalidForm", 8, 0, [(8, 0), (9, 15)])
    add("padding", "InvalidForm", 47, 0, [(47, 9)])
    add("sync code", "LostSync", second, 1, [(second, 254)])
    add("sync code of the first frame", "LostSync", places[0], 0, [(places[0] + 1, 240)])
    add("bit behind the sync code", "LostSync", second + 1, 1, [(second + 1, 250)])
    add("block size code", "ReservedValue", second + 2, 1, [(second + 2, whole[second + 2] & 15)])
    add("rate code", "InvalidForm", second + 2, 1, [(second + 2, whole[second + 2] | 15)])
    add("channel code", "ReservedValue", second + 3, 1, [(second + 3, 0xF2)])
    add("depth code", "ReservedValue", second + 3, 1, [(second + 3, 0x16)])
    add("coded number", "InvalidForm", second + 4, 1, [(second + 4, 255)])
    add("header checksum", "HeaderChecksum", second + 6, 1, [(second + 6, whole[second + 6] ^ 1)])
    add("first bit of a subframe", "InvalidForm", second + 7, 1, [(second + 7, 128)])
    add("kind of a subframe", "ReservedValue", third + 7, 2, [(third + 7, 4)])
    add("wasted bits", "InvalidForm", second + 8, 1, [(second + 7, 3), (second + 8, 0), (second + 9, 128)])
    add("method", "ReservedValue", second + 8, 1, [(second + 7, 16), (second + 8, 128)])
    add("partition order", "InvalidForm", second + 8, 1, [(second + 7, 16), (second + 8, 20)])
    add("residual", "OutOfRange", second + 9, 1, [
        (second + 7, 16), (second + 8, 0x40 | 30 // 8), (second + 9, 30 % 8 << 5 | 1),
    ] + [(second + at, 255) for at in range(10, 17)])
    add("sample", "OutOfRange", second + 7, 1, [
        (second + 7, 16), (second + 8, 14 // 4), (second + 9, 14 % 4 << 6),
    ] + [(second + at, 255) for at in range(10, 39)])
    add("frame checksum", "FrameChecksum", end - 2, 2, [(end - 1, whole[end - 1] ^ 128)])
    seven = stream_of([16, 5], depth=7, channel_count=1)[0]
    add("padding of a frame", "InvalidForm", len(seven) - 3, 1, [(len(seven) - 3, seven[-3] | 1)], seven)
    side = [[-128] * 16, [-128] * 15 + [127]]
    data = stream_of([16])[0]
    header = header_of(assignment="left-side", number=1)
    wrong = write_frame(header, side, [Subframe("verbatim")] * 2)
    found.append(("joined sample", data + wrong, ("OutOfRange", len(data)), 1))
    found.append(("cut off in a frame", whole[:-1], ("Truncated", len(whole) - 1), 2))
    found.append(("cut off in a block", whole[:55], ("Truncated", 55), 0))
    found.append(("bytes behind the frames", whole + [0, 0], ("LostSync", len(whole)), 3))
    return found
