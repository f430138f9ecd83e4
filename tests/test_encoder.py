"""Chapter 23: the encoder."""

from monochord.audio import Audio
from monochord.bits import BitReader
from monochord.blocks import read_blocks, write_blocks
from monochord.comments import Comments
from monochord.decoder import decode
from monochord.encoder import encode, encode_frame, encode_frames, frame_list, stream_info
from monochord.frame import read_frame, write_frame
from monochord.header import FrameHeader
from monochord.seektable import points_for
from monochord.settings import Settings
from monochord.stereo import split
from monochord.streaminfo import StreamInfo
from monochord.text import points_of
from tests.choosing import any_settings, candidates, first_smallest, ways
from tests.streams import BLOCKS, RATES, any_audio, digest_of, ends_of
from tests.support import Case, picker


def expected_frame(audio, start, size, number, settings):
    """The bytes of a frame, by point 23.4."""
    rows = [channel[start:start + size] for channel in audio.channels]
    assignment = "independent"
    if len(rows) == 2:
        assignment, first, second, _ = first_smallest(ways(*rows, audio.depth, settings))
        subframes = [first, second]
        rows = list(split(assignment, *rows))
    else:
        subframes = [first_smallest(candidates(row, audio.depth, settings))[0] for row in rows]
    header = FrameHeader(
        variable=settings.block_sizes is not None, block_size=size, rate=audio.rate, channels=len(rows),
        assignment=assignment, depth=audio.depth, number=number,
    )
    return write_frame(header, rows, subframes)


class FrameTest(Case):
    def check(self, audio, start, size, number, settings):
        """Check a frame that is encoded; returns its header."""
        data = self.unchanged(encode_frame, audio, start, size, number, settings)
        self.assertEqual(expected_frame(audio, start, size, number, settings), data)
        header, rows, _ = read_frame(BitReader(data), audio.rate, audio.depth)
        self.assertEqual([channel[start:start + size] for channel in audio.channels], rows)
        self.assertEqual(
            (settings.block_sizes is not None, size, audio.rate, len(rows), audio.depth, number),
            (header.variable, header.block_size, header.rate, header.channels, header.depth, header.number),
        )
        return header

    def test_by_hand(self):
        data = encode_frame(Audio(8000, 8, [[5] * 16]), 0, 16, 0, Settings(16))
        self.assertEqual([255, 248, 100, 2, 0, 15], data[:6])
        self.assertEqual([0, 5], data[7:9])
        self.assertEqual(11, len(data))
        data = encode_frame(Audio(8000, 8, [[5] * 16]), 3, 2, 128, Settings(16, block_sizes=[16]))
        self.assertEqual([255, 249, 100, 2, 194, 128, 1], data[:7])

    def test_both_strategies_and_any_number_of_channels(self):
        pick = picker(231)
        for count in range(1, 9):
            for sizes in (None, [16], [40, 16]):
                audio = any_audio(pick, pick.choice([4, 8, 13, 24]), count, 60)
                settings = any_settings(pick, block_sizes=sizes)
                header = self.check(audio, pick.randint(0, 20), pick.randint(1, 40), pick.randint(0, 300), settings)
                if count != 2:
                    self.assertEqual("independent", header.assignment)

    def test_rates_and_depths_with_and_without_a_code(self):
        pick = picker(232)
        for rate in RATES:
            self.check(any_audio(pick, 16, 1, 20, rate), 0, 20, 3, Settings(16))
        for depth in range(4, 33):
            for count in (1, 2):
                self.check(any_audio(pick, depth, count, 32), 0, 32, 3, any_settings(pick))

    def test_numbers_of_several_bytes(self):
        audio = any_audio(picker(233), 8, 2, 16)
        for number in (0, 127, 128, 2047, 2048, 65536, 2147483647):
            self.check(audio, 0, 16, number, Settings(16))
        for number in (2147483648, 68719476735):
            self.check(audio, 0, 16, number, Settings(16, block_sizes=[16]))

    def test_each_assignment(self):
        pick = picker(234)
        found = set()
        for _ in range(150):
            audio = any_audio(pick, 12, 2, 24)
            kind = pick.randrange(3)
            smooth, steps = [2 * at for at in range(24)], [pick.randint(-4, 4) for _ in range(24)]
            rough = [a + b for a, b in zip(smooth, steps)]
            if kind < 2:
                audio = Audio(8000, 12, [smooth, rough][:: 1 - 2 * kind])
            elif pick.random() < 0.5:
                audio = Audio(8000, 12, [rough, [a - b for a, b in zip(smooth, steps)]])
            found.add(self.check(audio, 0, 24, 0, any_settings(pick)).assignment)
            self.assertEqual("independent", self.check(audio, 0, 24, 0, any_settings(pick, stereo=False)).assignment)
        self.assertEqual({"independent", "left-side", "side-right", "mid-side"}, found)

    def test_all_frames(self):
        pick = picker(235)
        for sizes, length, starts in (
            (None, 0, []), (None, 15, [0]), (None, 16, [0]), (None, 17, [0, 16]), (None, 50, [0, 16, 32, 48]),
            ([20, 17], 0, []), ([20, 17], 60, [0, 20, 37, 57]), ([30], 90, [0, 30, 60]),
        ):
            for count in (1, 2, 3):
                audio = any_audio(pick, 8, count, length)
                settings = any_settings(pick, block_sizes=sizes)
                stops = starts[1:] + [length]
                expected = [
                    expected_frame(audio, start, stop - start, start if sizes else at, settings)
                    for at, (start, stop) in enumerate(zip(starts, stops))
                ]
                self.assertEqual(expected, self.unchanged(encode_frames, audio, settings))

    def test_many_frames(self):
        audio = Audio(8000, 4, [[at % 7 - 3 for at in range(16 * 130)]])
        frames = encode_frames(audio, Settings(16))
        self.assertEqual(130, len(frames))
        for at, frame in enumerate(frames):
            self.assertEqual(at, read_frame(BitReader(frame), 8000, 4)[0].number)
        frames = encode_frames(audio, Settings(20, block_sizes=[16]))
        for at, frame in enumerate(frames):
            self.assertEqual(16 * at, read_frame(BitReader(frame), 8000, 4)[0].number)


class ListTest(Case):
    def test_frame_list(self):
        self.assertEqual([], self.unchanged(frame_list, [], []))
        self.assertEqual([(0, 0, 5)], self.unchanged(frame_list, [5], [100]))
        told = self.unchanged(frame_list, [16, 16, 8], [30, 20, 9])
        self.assertEqual([(0, 0, 16), (16, 30, 16), (32, 50, 8)], told)
        self.assertTrue(all(one.__class__ is tuple for one in told))

    def test_stream_info(self):
        pick = picker(236)
        for depth in range(4, 33):
            count, length = pick.randint(1, 8), pick.randint(0, 70)
            audio = any_audio(pick, depth, count, length, pick.choice(RATES))
            settings = Settings(20)
            lengths = [len(frame) for frame in encode_frames(audio, settings)]
            expected = StreamInfo(
                20, 20, min(lengths, default=0), max(lengths, default=0), audio.rate, count, depth, length,
                digest_of(audio.channels, depth),
            )
            self.assertTrue(expected == self.unchanged(stream_info, audio, settings, lengths))

    def test_the_block_sizes_of_the_stream_info(self):
        audio = Audio(8000, 8, [[1] * 60])
        for settings, expected in (
            (Settings(16), (16, 16)), (Settings(16, block_sizes=[20, 16]), (16, 20)),
            (Settings(16, block_sizes=[100, 20]), (100, 100)), (Settings(100), (100, 100)),
            (Settings(16, block_sizes=[20, 50]), (20, 40)),
        ):
            info = stream_info(audio, settings, [30, 50, 20, 40])
            self.assertEqual(expected, (info.least_block, info.greatest_block))
            self.assertEqual((20, 50), (info.least_frame, info.greatest_frame))

    def test_no_frame(self):
        info = stream_info(Audio(44100, 24, [[], []]), Settings(4096), [])
        digest = [212, 29, 140, 217, 143, 0, 178, 4, 233, 128, 9, 152, 236, 248, 66, 126]
        self.assertTrue(StreamInfo(4096, 4096, 0, 0, 44100, 2, 24, 0, digest) == info)


class StreamTest(Case):
    def expected_blocks(self, audio, settings, blocks):
        """The blocks of point 23.2."""
        frames = encode_frames(audio, settings)
        lengths = [len(frame) for frame in frames]
        found = [(0, stream_info(audio, settings, lengths))]
        if settings.seek_interval > 0 and audio.length() > 0:
            listed, sample, offset = [], 0, 0
            for frame in frames:
                size = read_frame(BitReader(frame), audio.rate, audio.depth)[0].block_size
                listed.append((sample, offset, size))
                sample, offset = sample + size, offset + len(frame)
            found.append((3, points_for(listed, settings.seek_interval)))
        found += blocks
        if settings.vendor and 4 not in [kind for kind, _ in blocks]:
            found.append((4, Comments(points_of(settings.vendor), [])))
        return found, frames

    def check(self, audio, settings, blocks):
        """Check a stream that is encoded; returns its blocks."""
        data = self.unchanged(encode, audio, settings, blocks)
        expected, frames = self.expected_blocks(audio, settings, blocks)
        self.assertEqual(write_blocks(expected) + sum(frames, []), data)
        decoded = decode(data)
        self.assertIsNone(decoded.fault)
        self.assertTrue(decoded.audio == audio)
        self.assertEqual(expected, decoded.blocks)
        self.assertEqual(data, encode(audio, settings, blocks))
        return expected

    def kinds(self, audio, settings, blocks):
        """The kinds of the blocks of a stream."""
        return [kind for kind, _ in self.check(audio, settings, blocks)]

    def test_the_blocks_and_their_order(self):
        audio = Audio(8000, 8, [[at % 30 for at in range(60)]])
        comments = (4, Comments([65], [([65], [66])]))
        plain, seeking, named = Settings(16), Settings(16, seek_interval=20), Settings(16, vendor="ab ~")
        both = Settings(16, seek_interval=20, vendor="ab")
        self.assertEqual([0], self.kinds(audio, plain, []))
        self.assertEqual([0, 3], self.kinds(audio, seeking, []))
        self.assertEqual([0, 4], self.kinds(audio, named, []))
        self.assertEqual([0, 3, 4], self.kinds(audio, both, []))
        self.assertEqual([0, 3, 7, 1, 4], self.kinds(audio, both, [(7, [1]), (1, 5)]))
        self.assertEqual([0, 3, 7, 4, 1], self.kinds(audio, both, [(7, [1]), comments, (1, 5)]))
        self.assertEqual([0, 4, 1], self.kinds(audio, named, [comments, (1, 5)]))
        self.assertEqual([0, 1, 1, 2, 4, 5, 6, 7, 126], self.kinds(audio, plain, list(BLOCKS)))
        self.assertEqual([0, 3, 1, 1, 2, 4, 5, 6, 7, 126], self.kinds(audio, both, list(BLOCKS)))

    def test_the_vendor_of_the_caller_stays(self):
        audio = Audio(8000, 8, [[1]])
        told = self.check(audio, Settings(16, vendor="ab"), [(4, Comments([], []))])
        self.assertEqual((4, Comments([], [])), told[1])
        told = self.check(audio, Settings(16, vendor="ab"), [])
        self.assertEqual((4, Comments([97, 98], [])), told[1])

    def test_audio_without_samples(self):
        for count in (1, 2, 8):
            audio = Audio(44100, 16, [[] for _ in range(count)])
            self.assertEqual([0], self.kinds(audio, Settings(16, seek_interval=1), []))
            self.assertEqual([0, 1, 4], self.kinds(audio, Settings(16, seek_interval=1, vendor="v"), [(1, 0)]))
            self.assertEqual([0], self.kinds(audio, Settings(16, block_sizes=[20, 30]), []))

    def test_seek_tables(self):
        audio = Audio(8000, 8, [[at % 50 for at in range(100)]])
        for sizes in (None, [20, 33]):
            for every, many in ((1, None), (16, None), (17, None), (40, 3), (99, 2), (100, 1), (10 ** 12, 1)):
                told = self.check(audio, Settings(16, block_sizes=sizes, seek_interval=every), [])
                if many is not None:
                    self.assertEqual(many, len(told[1][1]))
        told = self.check(audio, Settings(16, seek_interval=40), [])
        self.assertEqual([(0, 16), (32, 16), (80, 16)], [(point[0], point[2]) for point in told[1][1]])

    def test_audio_of_every_depth(self):
        pick = picker(237)
        for depth in range(4, 33):
            for count in (1, 2, pick.randint(3, 8)):
                sizes = pick.choice([None, [20, 33], [16]])
                audio = any_audio(pick, depth, count, pick.randint(1, 70), pick.choice(RATES))
                self.check(audio, any_settings(pick, block_sizes=sizes, seek_interval=pick.choice([0, 30])), [])

    def test_extreme_samples(self):
        for depth in range(4, 33):
            low, high = ends_of(depth)
            for channels in (
                [[low] * 20], [[high] * 20], [[low, high] * 10], [[low] * 20, [high] * 20],
                [[high, low] * 10, [low, high] * 10], [[low] * 20, [low] * 20], [[high, low] * 10, [high] * 20],
                [[low, low, high, high] * 5, [low, high, low, high] * 5],
            ):
                self.check(Audio(8000, depth, channels), Settings(16, linear_order=3, wide=depth % 2 == 0), [])

    def test_a_larger_stream(self):
        pick = picker(238)
        left = [int(8000 * (at % 200 - 100) / 100) + pick.randint(-20, 20) for at in range(10000)]
        right = [sample - pick.randint(0, 9) for sample in left]
        settings = Settings(4096, linear_order=6, partition_order=8, seek_interval=3000, vendor="monochord")
        audio = Audio(44100, 16, [left, right])
        data = encode(audio, settings, [])
        self.assertLess(len(data), 30000)
        self.assertTrue(decode(data).audio == audio)
        self.assertEqual([0, 3, 4], [kind for kind, _ in read_blocks(data)[0]])

    def test_two_different_audios_have_different_encodings(self):
        # All audio of three samples of one channel, and of one sample of two channels, out of a few values.
        for settings in (Settings(16), Settings(16, wasted=False, fixed_order=0)):
            seen = {}
            for a in range(-8, 8):
                for b in range(-8, 8):
                    seen[tuple(encode(Audio(8000, 4, [[a, b]]), settings, []))] = (a, b)
                    seen[tuple(encode(Audio(8000, 4, [[a], [b]]), settings, []))] = (a, b)
            self.assertEqual(2 * 16 * 16, len(seen))
