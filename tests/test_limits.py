"""Chapter 30: limits of the encoded length."""

from monochord.audio import Audio
from monochord.blocks import read_blocks
from monochord.comments import Comments
from monochord.encoder import encode, encode_frame
from monochord.layout import block_sizes
from monochord.limits import frame_limit, stream_limit, stream_metadata_length
from monochord.settings import Settings
from tests.choosing import any_settings
from tests.streams import BLOCKS, RATES, any_audio, ends_of
from tests.support import Case, picker


class FrameLimitTest(Case):
    def test_by_hand(self):
        self.assertEqual(84, frame_limit(16, 2, 16))
        self.assertEqual(18 + 1 + 1, frame_limit(1, 1, 4))
        self.assertEqual(18 + 1 + 1, frame_limit(2, 1, 4))
        self.assertEqual(18 + 1 + 2, frame_limit(3, 1, 4))
        self.assertEqual(18 + 3 + 2, frame_limit(1, 3, 5))
        self.assertEqual(18 + 1 + 2, frame_limit(1, 1, 9))
        self.assertEqual(18 + 8 + 65535 * 32, frame_limit(65535, 8, 32))

    def test_samples_that_cannot_be_predicted(self):
        pick = picker(301)
        for depth in range(4, 33):
            low, high = ends_of(depth)
            for count in range(1, 9):
                size = pick.choice([1, 2, 3, 16, 17])
                audio = Audio(pick.choice(RATES), depth, [
                    [pick.choice([low, high, pick.randint(low, high)]) for _ in range(size)] for _ in range(count)
                ])
                for sizes, number in ((None, 2147483647), ([16], 68719476735)):
                    data = encode_frame(audio, 0, size, number, any_settings(pick, block_sizes=sizes))
                    self.assertLessEqual(len(data), frame_limit(size, count, depth))

    def test_the_longest_header(self):
        # A verbatim frame with a header of 16 bytes: 7 bytes of the number, 2 of the size and 2 of the rate.
        pick = picker(302)
        samples = [pick.randint(-128, 127) for _ in range(600)]
        data = encode_frame(Audio(655350, 8, [samples]), 0, 600, 68719476735, Settings(16, block_sizes=[600]))
        self.assertEqual(frame_limit(600, 1, 8), len(data))


class StreamLimitTest(Case):
    def check(self, audio, settings, blocks):
        """Check the limits of a stream that is encoded."""
        data = encode(audio, settings, blocks)
        length, count, depth = audio.length(), len(audio.channels), audio.depth
        ahead = self.unchanged(stream_metadata_length, length, settings, blocks)
        self.assertEqual(read_blocks(data)[1], ahead)
        limit = self.unchanged(stream_limit, length, count, depth, settings, blocks)
        frames = [frame_limit(size, count, depth) for size in block_sizes(length, settings)]
        self.assertEqual(ahead + sum(frames), limit)
        self.assertLessEqual(len(data), limit)

    def test_by_hand(self):
        settings = Settings(16)
        self.assertEqual(42, stream_metadata_length(0, settings, []))
        self.assertEqual(42, stream_metadata_length(100, settings, []))
        self.assertEqual(42 + 4 + 7, stream_metadata_length(100, settings, [(1, 7)]))
        seeking = Settings(16, seek_interval=20)
        self.assertEqual(42, stream_metadata_length(0, seeking, []))
        self.assertEqual(42 + 4 + 18, stream_metadata_length(1, seeking, []))
        # The multiples 0, 20, 40, 60 and 80 lie in five of the seven frames.
        self.assertEqual(42 + 4 + 18 * 5, stream_metadata_length(100, seeking, []))
        named = Settings(16, vendor="abc")
        self.assertEqual(42 + 4 + 4 + 3 + 4, stream_metadata_length(0, named, []))
        self.assertEqual(42 + 4 + 8, stream_metadata_length(0, named, [(4, Comments([], []))]))
        self.assertEqual(42, stream_limit(0, 2, 16, settings, []))
        self.assertEqual(42 + 84 + frame_limit(4, 2, 16), stream_limit(20, 2, 16, settings, []))
        several = Settings(16, block_sizes=[20, 16])
        self.assertEqual(
            42 + frame_limit(20, 1, 8) * 2 + frame_limit(16, 1, 8) + frame_limit(4, 1, 8),
            stream_limit(60, 1, 8, several, []),
        )

    def test_any_streams(self):
        pick = picker(303)
        for depth in range(4, 33):
            for _ in range(3):
                audio = any_audio(pick, depth, pick.randint(1, 8), pick.choice([0, 1, 16, 50]), pick.choice(RATES))
                settings = any_settings(
                    pick, block_sizes=pick.choice([None, [20, 33]]), seek_interval=pick.choice([0, 1, 20, 1000]),
                    vendor=pick.choice(["", "a vendor"]),
                )
                for blocks in ([], [(1, 9)], list(BLOCKS)):
                    self.check(audio, settings, blocks)

    def test_noise(self):
        pick = picker(304)
        for depth in (4, 8, 16, 24, 32):
            low, high = ends_of(depth)
            for count in (1, 2, 3):
                audio = Audio(1048575, depth, [[pick.randint(low, high) for _ in range(100)] for _ in range(count)])
                self.check(audio, Settings(16, seek_interval=1), [])
                self.check(audio, Settings(16, block_sizes=[17]), [])
