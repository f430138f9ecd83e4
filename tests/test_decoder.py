"""Chapter 24: decoding."""

from monochord.audio import Audio
from monochord.blocks import write_blocks
from monochord.decoder import Decoded, check_frame, decode
from monochord.encoder import encode
from monochord.settings import Settings
from tests.choosing import any_settings
from tests.streams import (
    BLOCKS, any_audio, digest_of, faulty_streams, frame_of, header_of, info_of, places_of, ramp, stream_of,
)
from tests.support import Case, picker

SIZES = [16, 16, 16, 5]


def fault_by_the_words(info, earlier, header, length):
    """The fault of a frame, with each statement of point 24.2 by itself."""
    own_number = sum(size for _, size in earlier) if header.variable else len(earlier)
    if header.number != own_number:
        return "OutOfOrder"
    sizes = [size for _, size in earlier]
    reasons = [
        len(earlier) > 0 and earlier[0][0] != header.variable,
        header.rate != info.rate,
        header.channels != info.channel_count,
        header.depth != info.depth,
        header.block_size > info.greatest_block,
        any(size < info.least_block for size in sizes),
        not header.variable and any(size != sizes[0] for size in sizes),
        not header.variable and len(sizes) > 0 and header.block_size > sizes[0],
        info.greatest_frame != 0 and length > info.greatest_frame,
        info.least_frame != 0 and length < info.least_frame,
        info.length != 0 and sum(sizes) + header.block_size > info.length,
    ]
    return "Disagreement" if any(reasons) else None


class DecodedTest(Case):
    def test_attributes(self):
        info, audio = info_of(), Audio(8000, 8, [[1]])
        decoded = Decoded(info, [(0, info)], audio, [(42, 0, 1)], ("Truncated", 5))
        self.assertIs(info, decoded.info)
        self.assertEqual([(0, info)], decoded.blocks)
        self.assertIs(audio, decoded.audio)
        self.assertEqual([(42, 0, 1)], decoded.frames)
        self.assertEqual(("Truncated", 5), decoded.fault)


class WholeStreamTest(Case):
    def check(self, data, info, blocks, channels, frames, fault):
        """Check all attributes of what is decoded."""
        decoded = self.unchanged(decode, data)
        self.assertIs(Decoded, decoded.__class__)
        self.assertTrue(info == decoded.info)
        self.assertEqual(blocks, decoded.blocks)
        self.assertIs(list, decoded.blocks.__class__)
        self.assertTrue(Audio(info.rate, info.depth, channels) == decoded.audio)
        self.assertEqual(frames, decoded.frames)
        self.assertIs(list, decoded.frames.__class__)
        self.assertTrue(all(frame.__class__ is tuple for frame in decoded.frames))
        self.assertEqual(fault, decoded.fault)
        self.assertIn(decoded.fault.__class__, (tuple, type(None)))

    def test_streams_of_one_size(self):
        for more in (
            {}, {"blocks": BLOCKS}, {"length": 53}, {"channel_count": 1}, {"channel_count": 8}, {"rate": 0},
            {"rate": 655370, "depth": 17}, {"greatest_block": 300}, {"depth": 32},
        ):
            data, channels = stream_of(SIZES, **more)
            info = info_of(**{name: value for name, value in more.items() if name != "blocks"})
            places = places_of(SIZES, **more)
            frames = list(zip(places, (0, 16, 32, 48), SIZES))
            self.check(data, info, [(0, info), *more.get("blocks", ())], channels, frames, None)

    def test_streams_of_several_sizes(self):
        for sizes in ([20, 40, 20, 33], [20, 1], [40], [7], [40, 20, 40, 39, 1]):
            more = {"variable": True, "least_block": 20, "greatest_block": 40}
            data, channels = stream_of(sizes, **more)
            frames = [(place, sum(sizes[:at]), sizes[at]) for at, place in enumerate(places_of(sizes, **more)[:-1])]
            info = info_of(least_block=20, greatest_block=40)
            self.check(data, info, [(0, info)], channels, frames, None)

    def test_a_stream_of_no_frame(self):
        for count in (1, 2, 8):
            info = info_of(channel_count=count)
            self.check(write_blocks([(0, info)]), info, [(0, info)], [[] for _ in range(count)], [], None)
        info = info_of(digest=digest_of([[], []], 8))
        self.check(write_blocks([(0, info), (1, 3)]), info, [(0, info), (1, 3)], [[], []], [], None)

    def test_known_values_of_the_stream_info(self):
        plain, channels = stream_of(SIZES)
        places = places_of(SIZES)
        lengths = [b - a for a, b in zip(places, places[1:])]
        frames = list(zip(places, (0, 16, 32, 48), SIZES))
        for least in (0, 1, min(lengths)):
            for greatest in (0, max(lengths), 16777215):
                for length in (0, 53):
                    for digest in ([0] * 16, digest_of(channels, 8)):
                        info = info_of(least_frame=least, greatest_frame=greatest, length=length, digest=digest)
                        data = write_blocks([(0, info)]) + plain[42:]
                        self.check(data, info, [(0, info)], channels, frames, None)

    def test_the_last_block_may_be_shorter_than_the_smallest(self):
        data, channels = stream_of([20, 3], least_block=20, greatest_block=20)
        self.assertIsNone(decode(data).fault)
        self.assertEqual(channels, decode(data).audio.channels)
        data, channels = stream_of([3])
        self.assertIsNone(decode(data).fault)
        data, channels = stream_of([3], variable=True)
        self.assertIsNone(decode(data).fault)

    def test_a_fixed_size_below_the_largest(self):
        # The strategy is that of the frames; the stream info may tell several sizes.
        for sizes in ([20, 20, 20], [20, 20, 7], [16], [40, 40, 39]):
            data, _ = stream_of(sizes, least_block=16, greatest_block=40)
            self.assertIsNone(decode(data).fault)
        data, _ = stream_of([16, 16], variable=True)
        self.assertIsNone(decode(data).fault)

    def test_streams_of_the_encoder(self):
        pick = picker(241)
        for depth in range(4, 33):
            audio = any_audio(pick, depth, pick.randint(1, 8), pick.randint(0, 60), pick.choice([0, 8000, 1048575]))
            data = encode(audio, any_settings(pick, block_sizes=pick.choice([None, [17, 16, 30]])), list(BLOCKS))
            decoded = self.unchanged(decode, data)
            self.assertIsNone(decoded.fault)
            self.assertTrue(audio == decoded.audio)
            self.assertEqual([(0, decoded.info), *BLOCKS], decoded.blocks)


class FaultTest(Case):
    def test_examples(self):
        self.assertEqual(("NotAStream", 0), decode([102, 76, 1]).fault)
        self.assertEqual(("Truncated", 2), decode([102, 76]).fault)
        self.assertEqual(("Truncated", 0), decode([]).fault)

    def test_each_fault_with_its_place(self):
        for name, data, fault, before in faulty_streams():
            with self.subTest(name):
                decoded = self.unchanged(decode, data)
                self.assertEqual(fault, decoded.fault)
                self.assertIs(tuple, decoded.fault.__class__)
                self.assertEqual(before, len(decoded.frames))
                # The samples are those of the frames before the fault, as they are told without it.
                if decoded.info is not None:
                    stop = decoded.frames[-1][0] if decoded.frames else None
                    total = sum(size for _, _, size in decoded.frames)
                    self.assertEqual(total, decoded.audio.length())
                    self.assertEqual(decoded.info.channel_count, len(decoded.audio.channels))
                    if stop is not None:
                        expected = stream_of([one[2] for one in decoded.frames], channel_count=len(
                            decoded.audio.channels))[1]
                        self.assertEqual(expected, decoded.audio.channels)

    def test_a_fault_in_the_marker_or_the_first_block(self):
        whole = stream_of(SIZES)[0]
        for data, fault in (
            (whole[:3], ("Truncated", 3)), ([1] + whole[1:], ("NotAStream", 0)), (whole[:7], ("Truncated", 7)),
            (whole[:41], ("Truncated", 41)), (whole[:4] + [1] + whole[5:], ("OutOfOrder", 4)),
            (whole[:9] + [15] + whole[10:], ("InvalidForm", 8)),
        ):
            decoded = decode(data)
            self.assertIsNone(decoded.info)
            self.assertEqual(([], [], fault), (decoded.blocks, decoded.frames, decoded.fault))
            self.assertTrue(Audio(0, 4, [[]]) == decoded.audio)

    def test_a_fault_in_a_later_block(self):
        info = info_of(channel_count=3, depth=13, rate=44100)
        blocks = [(0, info), (7, [1, 2]), (1, 2), (7, [])]
        data = write_blocks(blocks)
        data[42 + 6 + 4] = 1
        decoded = decode(data)
        self.assertTrue(info == decoded.info)
        self.assertEqual(blocks[:2], decoded.blocks)
        self.assertTrue(Audio(44100, 13, [[], [], []]) == decoded.audio)
        self.assertEqual(([], ("InvalidForm", 52)), (decoded.frames, decoded.fault))

    def test_cut_off_at_every_byte(self):
        data, channels = stream_of(SIZES, blocks=[(1, 3), (7, [1])])
        places = places_of(SIZES, blocks=[(1, 3), (7, [1])])
        for length in range(len(data)):
            decoded = decode(data[:length])
            many = len([place for place in places[1:] if place <= length])
            if length in places:
                self.assertIsNone(decoded.fault)
            else:
                self.assertEqual(("Truncated", length), decoded.fault)
            self.assertEqual(many, len(decoded.frames))
            self.assertEqual([channel[:sum(SIZES[:many])] for channel in channels] if length >= 42 else [[]],
                             decoded.audio.channels)
            ends = [42, 49, 54]
            self.assertEqual(len([end for end in ends if end <= length]), len(decoded.blocks))

    def test_bytes_behind_the_last_frame(self):
        data = stream_of(SIZES)[0]
        end = len(data)
        self.assertEqual(("Truncated", end + 1), decode(data + [0]).fault)
        self.assertEqual(("Truncated", end + 1), decode(data + [255]).fault)
        self.assertEqual(("LostSync", end), decode(data + [0, 0]).fault)
        self.assertEqual(("LostSync", end), decode(data + [254, 0, 0]).fault)
        self.assertEqual(("Truncated", end + 2), decode(data + [255, 248]).fault)
        for more in ([0], [0, 0], [255, 248]):
            self.assertEqual(4, len(decode(data + more).frames))

    def test_a_frame_with_a_shorter_last_block_is_the_last_one(self):
        data, _ = stream_of([16, 5, 16])
        self.assertEqual(("Disagreement", places_of([16, 5])[2]), decode(data).fault)
        self.assertEqual(21, decode(data).audio.length())

    def test_one_damaged_byte(self):
        pick = picker(242)
        audio = any_audio(pick, 12, 2, 50)
        data = encode(audio, Settings(16, linear_order=2), [(1, 2)])
        starts = [place for place, _, _ in decode(data).frames]
        for at in range(len(data)):
            changed = list(data)
            changed[at] ^= 1 << pick.randrange(8)
            decoded = self.unchanged(decode, changed)
            if at >= starts[0]:
                self.assertIsNotNone(decoded.fault)
                kept = len([start for start in starts if start <= at]) - 1
                self.assertEqual(kept, len(decoded.frames))
                self.assertEqual(audio.rows(0, 16 * kept), decoded.audio.channels)

    def test_any_bytes(self):
        pick = picker(243)
        whole = encode(any_audio(pick, 8, 2, 40), Settings(16), list(BLOCKS))
        for _ in range(600):
            data = list(whole)
            for _ in range(pick.randint(1, 12)):
                data[pick.randrange(len(data))] = pick.choice([0, 1, 127, 128, 255, pick.randrange(256)])
            start = pick.choice([0, 0, 0, pick.randrange(len(data))])
            self.assertIn(decode(data[start:]).__class__, (Decoded,))
            noise = [pick.randrange(256) for _ in range(pick.randrange(60))]
            self.assertIsNotNone(decode(noise).fault)
            self.assertIsNotNone(decode(whole[:pick.randrange(42)] + noise).fault or 1)

    def test_more_bytes_change_nothing_before(self):
        for name, data, fault, before in faulty_streams():
            if fault[0] != "Truncated" and fault[1] < len(data):
                for more in ([0], [255, 248, 1, 2, 3], data):
                    decoded = decode(data + more)
                    self.assertEqual((fault, before), (decoded.fault, len(decoded.frames)), name)


class CheckFrameTest(Case):
    def check(self, expected, info, earlier, header, length=50):
        """Check the fault of a frame."""
        self.assertEqual(expected, fault_by_the_words(info, earlier, header, length))
        self.assertEqual(expected, self.unchanged(check_frame, info, earlier, header, length))

    def test_none(self):
        fixed = [(False, 16)] * 3
        self.check(None, info_of(), [], header_of())
        self.check(None, info_of(), fixed, header_of(number=3))
        self.check(None, info_of(), fixed, header_of(number=3, block_size=1))
        self.check(None, info_of(), [(True, 16)] * 3, header_of(number=48, variable=True))
        self.check(None, info_of(length=64), fixed, header_of(number=3))
        self.check(None, info_of(least_frame=50, greatest_frame=50), fixed, header_of(number=3))
        self.check(None, info_of(least_frame=50), fixed, header_of(number=3))
        self.check(None, info_of(greatest_frame=50), fixed, header_of(number=3))
        self.check(None, info_of(), [], header_of(assignment="mid-side"))

    def test_out_of_order(self):
        fixed, variable = [(False, 16)] * 3, [(True, 16)] * 3
        for number in (0, 2, 4, 48):
            self.check("OutOfOrder", info_of(), fixed, header_of(number=number))
        for number in (0, 3, 47, 49):
            self.check("OutOfOrder", info_of(), variable, header_of(number=number, variable=True))
        self.check("OutOfOrder", info_of(), [], header_of(number=1))
        self.check("OutOfOrder", info_of(), [], header_of(number=1, variable=True))
        # The number is judged by the frame's own strategy.
        self.check("OutOfOrder", info_of(), fixed, header_of(number=3, variable=True))
        self.check("OutOfOrder", info_of(), variable, header_of(number=48))
        # Both faults at once.
        self.check("OutOfOrder", info_of(), fixed, header_of(number=4, rate=1, channels=1, depth=5, block_size=99))

    def test_each_reason_alone(self):
        fixed, variable = [(False, 16)] * 3, [(True, 16)] * 3
        own = {"number": 3}
        self.check("Disagreement", info_of(), fixed, header_of(number=48, variable=True))
        self.check("Disagreement", info_of(), variable, header_of(number=3))
        self.check("Disagreement", info_of(), fixed, header_of(rate=0, **own))
        self.check("Disagreement", info_of(rate=0), fixed, header_of(**own))
        self.check("Disagreement", info_of(), fixed, header_of(channels=1, **own))
        self.check("Disagreement", info_of(), fixed, header_of(channels=3, **own))
        self.check("Disagreement", info_of(), fixed, header_of(depth=9, **own))
        self.check("Disagreement", info_of(), [], header_of(block_size=17))
        self.check("Disagreement", info_of(), [], header_of(block_size=17, variable=True))
        wide = info_of(least_block=20, greatest_block=40)
        self.check("Disagreement", wide, [(True, 19)], header_of(block_size=40, number=19, variable=True))
        self.check("Disagreement", wide, [(True, 20), (True, 19)], header_of(number=39, variable=True))
        self.check("Disagreement", wide, [(False, 19)], header_of(number=1))
        self.check(None, wide, [(True, 20)], header_of(block_size=19, number=20, variable=True))
        self.check("Disagreement", wide, [(False, 30), (False, 20)], header_of(number=2))
        self.check("Disagreement", wide, [(False, 20), (False, 30)], header_of(number=2))
        self.check("Disagreement", wide, [(False, 30)], header_of(block_size=31, number=1))
        self.check(None, wide, [(True, 30), (True, 20)], header_of(block_size=40, number=50, variable=True))
        self.check(None, wide, [(True, 30)], header_of(block_size=31, number=30, variable=True))
        self.check("Disagreement", info_of(greatest_frame=49), fixed, header_of(**own))
        self.check("Disagreement", info_of(least_frame=51), fixed, header_of(**own))
        self.check("Disagreement", info_of(length=63), fixed, header_of(**own))
        self.check("Disagreement", info_of(length=1), [], header_of())

    def test_any_frames(self):
        pick = picker(244)
        seen = {}
        for _ in range(6000):
            variable = pick.random() < 0.5
            earlier = [(variable, pick.choice([16, 20, 20, 20, 24])) for _ in range(pick.randint(0, 4))]
            own = variable if pick.random() < 0.95 else not variable
            number = sum(size for _, size in earlier) if own else len(earlier)
            header = header_of(
                variable=own, number=number + (pick.random() < 0.05), block_size=pick.choice([3, 16, 20, 24]),
                rate=pick.choice([8000] * 20 + [0]), channels=pick.choice([2] * 20 + [1]),
                depth=pick.choice([8] * 20 + [9]),
            )
            info = info_of(
                least_block=pick.choice([16, 16, 20]), greatest_block=pick.choice([20, 24, 24]),
                least_frame=pick.choice([0, 0, 50, 51]), greatest_frame=pick.choice([0, 0, 52]),
                length=pick.choice([0, 0, 60, 80]),
            )
            length = pick.choice([49, 50, 51, 52, 53])
            expected = fault_by_the_words(info, earlier, header, length)
            self.assertEqual(expected, check_frame(info, earlier, header, length))
            seen[expected] = seen.get(expected, 0) + 1
        self.assertTrue(all(seen[name] > 100 for name in (None, "OutOfOrder", "Disagreement")), seen)


class RowsTest(Case):
    def test_the_helpers_of_these_tests(self):
        # The streams of these tests are what point 24.1 says, so that a wrong helper is seen here.
        data = stream_of([16])[0]
        self.assertEqual([102, 76, 97, 67], data[:4])
        self.assertEqual(frame_of(ramp(16)), data[42:])
