"""Chapter 26: seeking and salvaging."""

from monochord.audio import Audio
from monochord.bits import BitReader
from monochord.blocks import read_blocks, write_blocks
from monochord.decoder import decode
from monochord.encoder import encode
from monochord.errors import (
    Disagreement, FrameChecksum, HeaderChecksum, InvalidForm, LostSync, MonochordError, NotAStream, OutOfOrder,
    ReservedValue, Truncated,
)
from monochord.frame import read_frame
from monochord.header import read_header, write_header
from monochord.seeking import decode_from, find_frame, first_sample, salvage, start_point
from monochord.settings import Settings
from tests.streams import any_audio, faulty_streams, frame_of, header_of, info_of, places_of, ramp, stream_of
from tests.support import Case, picker

SIZES = [16, 16, 16, 5]


def header_at(data, place, info):
    """The header that can be read at a place, or None."""
    if place > len(data):
        return None
    try:
        return read_header(BitReader(data, place), info.rate, info.depth)
    except MonochordError:
        return None


def first_told(header, first):
    """The first sample that a header tells, by point 26.2."""
    return header.number if first.variable else header.number * first.block_size


def of_the_stream(header, info, first):
    """True if a header belongs to a stream, by point 26.2."""
    told = (header.rate, header.channels, header.depth, header.variable)
    return told == (info.rate, info.channel_count, info.depth, first.variable)


def start_by_the_words(data, sample):
    """The start of a search, by points 26.3 and 26.4."""
    blocks, place = read_blocks(data)
    info = blocks[0][1]
    first = header_at(data, place, info)
    usable = []
    for kind, value in blocks:
        for point in (value if kind == 3 and first is not None else ()):
            if point is not None:
                header = header_at(data, place + point[1], info)
                if header and of_the_stream(header, info, first) and first_told(header, first) == point[0]:
                    usable.append(point)
    fitting = [point for point in usable if point[0] <= sample]
    if not fitting:
        return place, 0
    best = max(fitting, key=lambda point: point[0])
    return place + best[1], best[0]


def salvaged_by_the_words(data):
    """The kept frames, by point 26.7."""
    blocks, place = read_blocks(data)
    info = blocks[0][1]
    kept, first = [], None
    while place < len(data):
        reader = BitReader(data, place)
        try:
            header, _, _ = read_frame(reader, info.rate, info.depth)
        except MonochordError:
            header = None
        if header is not None and of_the_stream(header, info, first or header):
            first = first or header
            kept.append((place, first_told(header, first), header.block_size))
            place = reader.byte_place()
        else:
            place += 1
    return kept


def with_points(points, sizes=SIZES, **more):
    """A stream with a seek table of these points."""
    return stream_of(sizes, blocks=[(3, points)], **more)[0]


def right_points(sizes, **more):
    """The points of all frames of such a stream."""
    places = places_of(sizes, **more)
    return [(sum(sizes[:at]), places[at] - places[0], size) for at, size in enumerate(sizes)]


class FirstSampleTest(Case):
    def test_both_strategies(self):
        first = header_of(block_size=192)
        for number in (0, 1, 1000, 2147483647):
            for size in (192, 17, 300):
                header = header_of(number=number, block_size=size)
                self.assertEqual(number * 192, self.unchanged(first_sample, header, first))
        first = header_of(block_size=192, variable=True)
        for number in (0, 1, 1000, 68719476735):
            header = header_of(number=number, variable=True, block_size=40)
            self.assertEqual(number, self.unchanged(first_sample, header, first))
        # The stream's strategy is that of its first header.
        self.assertEqual(5 * 16, first_sample(header_of(number=5, variable=True), header_of()))
        self.assertEqual(5, first_sample(header_of(number=5), header_of(variable=True)))


class WholeStreamTest(Case):
    def check(self, data):
        """Check all functions over a stream without a fault and with right points."""
        decoded = decode(data)
        self.assertIsNone(decoded.fault)
        total = decoded.audio.length()
        samples = {0, max(0, total - 1), total, total + 1, total + 1000, 10 ** 12}
        for _, first, size in decoded.frames:
            samples |= {first, first + size - 1, first + size // 2}
        for sample in sorted(samples):
            expected = [frame for frame in decoded.frames if frame[1] <= sample < frame[1] + frame[2]]
            found = self.unchanged(find_frame, data, sample)
            self.assertEqual(expected[0] if expected else None, found)
            self.assertIn(found.__class__, (tuple, type(None)))
            rows = self.unchanged(decode_from, data, sample)
            self.assertEqual(decoded.audio.rows(sample, total), rows)
            start = self.unchanged(start_point, data, sample)
            self.assertIs(tuple, start.__class__)
            self.assertEqual(start_by_the_words(data, sample), start)
        self.assertEqual(decoded.frames, self.unchanged(salvage, data))

    def test_streams_of_the_encoder(self):
        pick = picker(261)
        for sizes in (None, [16], [20, 33, 17]):
            for interval in (0, 1, 16, 40, 1000):
                for count in (1, 2, 3):
                    for length in (0, 1, 16, 17, 100):
                        audio = any_audio(pick, pick.choice([4, 8, 16, 24]), count, length, pick.choice([0, 8000]))
                        self.check(encode(audio, Settings(16, block_sizes=sizes, seek_interval=interval), [(1, 3)]))

    def test_both_strategies_with_placeholders(self):
        for variable, sizes in ((False, SIZES), (True, [20, 40, 33, 20, 1])):
            more = {"variable": variable, "greatest_block": 40}
            points = right_points(sizes, **more)
            for chosen in (
                [], [None], [None] * 3, points, points + [None], points[1:3], points[3:] + [None, None], points[:1],
            ):
                self.check(with_points(chosen, sizes, **more))
            self.check(stream_of(sizes, **more)[0])

    def test_the_search_starts_at_the_nearest_point(self):
        points = right_points(SIZES)
        data = with_points(points[1:3] + [None])
        start = read_blocks(data)[1]
        for sample, expected in ((0, (0, 0)), (15, (0, 0)), (16, points[1]), (31, points[1]), (32, points[2]),
                                 (52, points[2]), (10 ** 9, points[2])):
            place = start + (expected[1] if expected[0] else 0)
            self.assertEqual((place, expected[0]), start_point(data, sample))

    def test_a_stream_without_frames(self):
        for blocks in ([], [(3, [])], [(3, [None])], [(3, [(0, 0, 16), (16, 5, 16)])]):
            data = write_blocks([(0, info_of()), *blocks])
            for sample in (0, 1, 16, 99):
                self.assertEqual((len(data), 0), start_point(data, sample))
                self.assertIsNone(find_frame(data, sample))
                self.assertEqual([[], []], decode_from(data, sample))
            self.assertEqual([], salvage(data))


class PointsTest(Case):
    def check(self, data, start_index, sample, sizes=SIZES):
        """Check that a search starts at a frame, whatever wrong points there are, and finds the right one."""
        frames = decode(data).frames
        expected = (frames[start_index][0], frames[start_index][1])
        self.assertEqual(expected, start_point(data, sample))
        self.assertEqual(expected, start_by_the_words(data, sample))
        found = [frame for frame in frames if frame[1] <= sample < frame[1] + frame[2]]
        self.assertEqual(found[0] if found else None, find_frame(data, sample))
        audio = decode(data).audio
        self.assertEqual(audio.rows(sample, audio.length()), decode_from(data, sample))

    def test_a_wrong_sample(self):
        points = right_points(SIZES)
        for wrong in (points[2][0] - 1, points[2][0] + 1, points[2][0] - 16 + 5):
            data = with_points([points[1], (wrong, points[2][1], 16)])
            self.check(data, 1, 40)
            self.check(data, 0, 10)
            self.check(data, 1, 52)

    def test_a_wrong_offset(self):
        points = right_points(SIZES)
        for wrong in (points[2][1] - 1, points[2][1] + 1, points[1][1], points[3][1], 100000, 2 ** 64 - 1):
            data = with_points([points[1], (32, wrong, 16)])
            self.check(data, 1, 40)
            self.check(data, 1, 50)
            data = with_points([(32, wrong, 16)])
            self.check(data, 0, 40)

    def test_both_wrong(self):
        points = right_points(SIZES)
        data = with_points([(3, 7, 16), points[2], (40, 3, 16), (41, points[1][1], 16), (2 ** 64 - 2, 0, 0)])
        self.check(data, 2, 52)
        self.check(data, 2, 32)
        self.check(data, 0, 31)

    def test_the_count_does_not_matter(self):
        points = [(sample, offset, 0) for sample, offset, _ in right_points(SIZES)]
        self.check(with_points(points), 2, 40)

    def test_a_point_behind_the_wanted_sample_is_not_taken(self):
        points = right_points(SIZES)
        self.check(with_points([points[3]]), 0, 47)
        self.check(with_points([points[3]]), 3, 48)

    def test_a_place_at_the_end_and_behind(self):
        data = with_points([(48, 0, 5)])
        length = len(data) - read_blocks(data)[1]
        for offset in (length - 1, length, length + 1, length + 100):
            self.check(with_points([(48, offset, 5)]), 0, 50)

    def test_headers_of_another_form(self):
        # A point at a frame whose header does not belong to the stream, though it tells the point's sample.
        points = right_points(SIZES)
        for changed in (
            {"rate": 16000}, {"channels": 1}, {"channels": 3}, {"depth": 16}, {"variable": True, "number": 32},
            {"variable": True, "number": 2},
        ):
            data = with_points(points, frames={2: changed})
            start = read_blocks(data)[1]
            self.assertEqual((start + points[1][1], 16), start_point(data, 40))
            self.assertEqual((start + points[1][1], 16), start_by_the_words(data, 40))
        data = with_points(points, frames={2: {"number": 3}})
        self.assertEqual(16, start_point(data, 40)[1])

    def seeming(self, **changed):
        """A stream of one channel, in whose second frame a header seems to stand, and the place of that."""
        told = {"number": 5, "channels": 1, **changed}
        bytes_of_header = write_header(header_of(**told))
        inner = [byte - 256 if byte > 127 else byte for byte in bytes_of_header]
        first = frame_of([list(range(16))])
        second = frame_of([inner + [1] * (16 - len(inner))], number=1)
        third = frame_of([list(range(9))], number=2)
        offset = len(first) + second.index(bytes_of_header[0], 1)
        while (first + second)[offset:offset + len(inner)] != bytes_of_header:
            offset += 1
        blocks = [(0, info_of(channel_count=1)), (3, [(16, len(first), 16), (80, offset, 16)])]
        return write_blocks(blocks) + first + second + third, offset

    def test_a_header_in_the_middle_of_a_frame(self):
        data, offset = self.seeming()
        self.assertIsNone(decode(data).fault)
        place = read_blocks(data)[1]
        self.assertEqual((place + offset, 80), start_point(data, 80))
        self.assertEqual((place + offset, 80), start_point(data, 99))
        self.assertEqual(16, start_point(data, 79)[1])
        # What stands there is no frame.
        for call in (find_frame, decode_from):
            with self.assertRaises(MonochordError) as caught:
                call(data, 80)
            reader = BitReader(data, place + offset)
            with self.assertRaises(caught.exception.__class__) as expected:
                read_frame(reader, 8000, 8)
            self.assertEqual(expected.exception.place, caught.exception.place)
        self.assertEqual(16, find_frame(data, 20)[1])
        self.assertEqual(3, len(salvage(data)))

    def test_a_header_of_another_stream_in_the_middle_of_a_frame(self):
        for changed in ({"rate": 16000}, {"depth": 16}, {"channels": 2}, {"variable": True, "number": 80},
                        {"number": 4}):
            data, _ = self.seeming(**changed)
            self.assertEqual(16, start_point(data, 90)[1])
            self.assertEqual(start_by_the_words(data, 90), start_point(data, 90))
            self.assertIsNone(find_frame(data, 90))

    def test_a_first_frame_whose_header_cannot_be_read(self):
        points = right_points(SIZES)
        data = with_points(points)
        start = read_blocks(data)[1]
        for at, byte, kind, where in ((0, 254, LostSync, 0), (6, data[start + 6] ^ 1, HeaderChecksum, 6)):
            changed = list(data)
            changed[start + at] = byte
            self.assertEqual((start, 0), start_point(changed, 40))
            for call in (find_frame, decode_from):
                self.check_raises(kind, start + where, call, changed, 40)
            self.assertEqual(frames_of(data)[1:], salvage(changed))

    def test_a_first_frame_whose_body_cannot_be_read(self):
        points = right_points(SIZES)
        data = with_points(points)
        start = read_blocks(data)[1]
        data[start + 12] ^= 1
        self.assertEqual((start + points[2][1], 32), start_point(data, 40))
        self.assertEqual((start + points[2][1], 32, 16), find_frame(data, 40))
        self.assertEqual([row[8:] for row in join_rows((32, 48, 53))], decode_from(data, 40))
        self.check_raises(FrameChecksum, start + points[1][1] - 2, find_frame, data, 3)

    def test_a_first_frame_of_another_stream(self):
        # It tells the strategy and the block size, even if it does not belong to the stream.
        points = right_points(SIZES)
        data = with_points(points, frames={0: {"rate": 16000}})
        start = read_blocks(data)[1]
        self.assertEqual((start + points[2][1], 32), start_point(data, 40))
        self.assertEqual((start, 0), start_point(data, 0))
        data = with_points(points, frames={0: {"rate": 16000, "variable": True}})
        self.assertEqual((start, 0), start_point(data, 40))

    def test_any_points(self):
        pick = picker(262)
        for _ in range(150):
            variable = pick.random() < 0.5
            sizes = [16, 16, 16, 16, 5]
            points = []
            for sample, offset, count in right_points(sizes, variable=variable):
                kind = pick.randrange(5)
                if kind == 1:
                    sample += pick.randint(0, 3)
                elif kind == 2:
                    offset += pick.randint(-2, 2) if offset else 0
                if kind != 3:
                    points.append((sample, offset, count))
            data = with_points(points + [None] * pick.randint(0, 2), sizes, variable=variable)
            for sample in range(0, 75, 4):
                self.assertEqual(start_by_the_words(data, sample), start_point(data, sample))
                self.assertEqual(
                    ([one for one in decode(data).frames if one[1] <= sample < one[1] + one[2]] or [None])[0],
                    find_frame(data, sample),
                )


def frames_of(data):
    """The frames of a stream."""
    return decode(data).frames


def join_rows(bounds):
    """The rows of the streams of these tests between the starts of blocks."""
    rows = [[], []]
    for start, stop in zip(bounds, bounds[1:]):
        for row, more in zip(rows, ramp(stop - start, 2, start)):
            row += more
    return rows


class ErrorsTest(Case):
    def test_the_errors_of_the_metadata(self):
        whole = stream_of(SIZES)[0]
        for data, kind, place in (
            ([], Truncated, 0), (whole[:3], Truncated, 3), ([1, 2], NotAStream, 0), (whole[:20], Truncated, 20),
            (whole[:4] + [1] + whole[5:], OutOfOrder, 4), (whole[:4] + [127] + whole[5:], InvalidForm, 4),
        ):
            for call in (start_point, find_frame, decode_from):
                self.check_raises(kind, place, call, data, 0)
            self.check_raises(kind, place, salvage, data)
        data = with_points(right_points(SIZES))
        data[42 + 4 + 18 + 7] = 0
        for call in (start_point, find_frame, decode_from):
            self.check_raises(OutOfOrder, 42 + 4 + 18, call, data, 0)

    def test_streams_that_are_cut_off(self):
        whole = stream_of(SIZES)[0]
        places = places_of(SIZES)
        for length in range(places[0], len(whole)):
            data = whole[:length]
            many = len([place for place in places[1:] if place <= length])
            for sample in (0, 20, 40, 52, 60):
                if sample // 16 < many:
                    self.assertEqual(frames_of(whole)[sample // 16], find_frame(data, sample))
                elif length in places:
                    self.assertIsNone(find_frame(data, sample))
                else:
                    self.check_raises(Truncated, length, find_frame, data, sample)
                if length not in places:
                    self.check_raises(Truncated, length, decode_from, data, sample)

    def test_the_errors_of_the_frames(self):
        # The frames up to the one that contains the sample are read, and by `decode_from` all later ones.
        for name, data, (fault, place), before in faulty_streams():
            decoded = decode(data)
            if fault in ("OutOfOrder", "Disagreement", "DigestMismatch") or not decoded.frames:
                continue
            with self.subTest(name):
                for _, first, size in decoded.frames:
                    self.assertEqual(first, find_frame(data, first + size - 1)[1])
                    with self.assertRaises(MonochordError) as caught:
                        decode_from(data, first)
                    self.assertEqual((fault, place), (caught.exception.name, caught.exception.place))
                with self.assertRaises(MonochordError) as caught:
                    find_frame(data, decoded.audio.length())
                self.assertEqual((fault, place), (caught.exception.name, caught.exception.place))

    def test_frames_are_not_checked_further(self):
        for changed in ({"number": 7}, {"rate": 16000}, {"variable": True}, {"depth": 12}):
            data = stream_of(SIZES, frames={1: changed})[0]
            place = places_of(SIZES, frames={1: changed})
            self.assertEqual((place[1], 16, 16), find_frame(data, 20))
            self.assertEqual((place[3], 48, 5), find_frame(data, 50))
            self.assertEqual(join_rows((0, 16, 32, 48, 53)), decode_from(data, 0))
        data = stream_of(SIZES, length=7, digest=[1] * 16, least_frame=5, greatest_frame=6)[0]
        self.assertEqual(join_rows((0, 16, 32, 48, 53)), decode_from(data, 0))

    def test_another_number_of_channels(self):
        for count in (1, 3, 8):
            more = {"frames": {1: {"channels": count}}}
            data, places = stream_of(SIZES, **more)[0], places_of(SIZES, **more)
            for sample in (0, 15, 16, 31):
                self.check_raises(Disagreement, places[1], decode_from, data, sample)
            for sample in (0, 16, 32, 52):
                self.assertEqual(sample // 16 * 16, find_frame(data, sample)[1])
            # An earlier frame does not count.
            for sample in (32, 34):
                self.assertEqual([row[sample - 32:] for row in join_rows((32, 48, 53))], decode_from(data, sample))
            self.assertEqual([[], []], decode_from(data, 53))
        # The errors of reading come first.
        data[places[1] + 30] ^= 1
        self.check_raises(FrameChecksum, places[2] - 2, decode_from, data, 0)


class SalvageTest(Case):
    def check(self, data, expected=None):
        """Check what is salvaged."""
        kept = self.unchanged(salvage, data)
        self.assertEqual(salvaged_by_the_words(data), kept)
        self.assertIs(list, kept.__class__)
        self.assertTrue(all(frame.__class__ is tuple for frame in kept))
        if expected is not None:
            self.assertEqual(expected, kept)
        return kept

    def test_one_damaged_byte_at_every_place(self):
        pick = picker(263)
        for sizes in (None, [20, 16]):
            audio = any_audio(pick, 8, 2, 60)
            data = encode(audio, Settings(16, block_sizes=sizes), [])
            frames = frames_of(data)
            for at in range(frames[0][0], len(data)):
                changed = list(data)
                changed[at] ^= 1 << pick.randrange(8)
                kept = self.check(changed)
                damaged = [frame for frame in frames if frame[0] <= at][-1]
                others = [frame for frame in frames if frame != damaged]
                if sizes is not None or damaged != frames[0]:
                    self.assertTrue(set(others) <= set(kept))

    def test_frames_that_are_removed(self):
        for variable in (False, True):
            sizes = [16, 16, 16, 16, 5]
            data = stream_of(sizes, variable=variable)[0]
            places = places_of(sizes, variable=variable)
            frames = frames_of(data)
            for gone in range(len(sizes)):
                cut = data[:places[gone]] + data[places[gone + 1]:]
                length = places[gone + 1] - places[gone]
                expected = frames[:gone] + [
                    (place - length, first, size) for place, first, size in frames[gone + 1:]
                ]
                self.check(cut, expected)
        # Without the frames of 16 samples, the last one takes the part of the first one.
        data = stream_of(sizes)[0]
        places = places_of(sizes)
        self.check(data[:places[0]] + data[places[4]:], [(places[0], 4 * 5, 5)])

    def test_bytes_between_the_frames(self):
        data, places = stream_of(SIZES)[0], places_of(SIZES)
        noise = [255, 248, 0, 7, 255, 255, 248, 105]
        changed = data[:places[0]] + noise + data[places[0]:places[2]] + noise + data[places[2]:] + noise
        frames = frames_of(data)
        expected = [(place + 8 * (1 + (first >= 32)), first, size) for place, first, size in frames]
        self.check(changed, expected)

    def test_headers_of_another_form(self):
        for changed in ({"rate": 16000}, {"rate": 8001}, {"depth": 12}, {"channels": 1}, {"channels": 3},
                        {"variable": True}, {"variable": True, "number": 16}):
            data = stream_of(SIZES, frames={1: changed})[0]
            places = places_of(SIZES, frames={1: changed})
            self.check(data, [(places[0], 0, 16), (places[2], 32, 16), (places[3], 48, 5)])
        # Another strategy at the beginning decides for the whole stream.
        data = stream_of(SIZES, frames={0: {"variable": True}})[0]
        self.check(data, [(42, 0, 16)])
        data = stream_of(SIZES, frames={0: {"variable": True, "rate": 16000}})[0]
        self.assertEqual([16, 32, 48], [first for _, first, _ in self.check(data)])

    def test_numbers_and_sizes_are_not_checked(self):
        data = stream_of(SIZES, frames={1: {"number": 9}}, length=3, digest=[5] * 16)[0]
        self.assertEqual([0, 144, 32, 48], [first for _, first, _ in self.check(data)])
        data = stream_of([20, 40, 7, 20])[0]
        self.assertEqual([(0, 20), (20, 40), (40, 7), (60, 20)], [frame[1:] for frame in self.check(data)])

    def test_streams_that_are_cut_off(self):
        data, places = stream_of(SIZES)[0], places_of(SIZES)
        for length in range(places[0], len(data) + 1):
            many = len([place for place in places[1:] if place <= length])
            self.check(data[:length], frames_of(data)[:many])

    def test_the_faulty_streams(self):
        for _, data, (fault, place), before in faulty_streams():
            if decode(data).frames:
                self.assertEqual(decode(data).frames, self.check(data)[:before])

    def test_reserved_values_do_not_stop_it(self):
        data, places = stream_of(SIZES)[0], places_of(SIZES)
        data[places[1] + 3] = 0xF2
        self.check_raises(ReservedValue, places[1] + 3, find_frame, data, 20)
        self.assertEqual([0, 32, 48], [first for _, first, _ in self.check(data)])


class WholeAudioTest(Case):
    def test_a_larger_stream(self):
        samples = [at * at % 251 - 125 for at in range(5000)]
        data = encode(Audio(8000, 8, [samples]), Settings(256, seek_interval=700), [])
        for sample in range(0, 5001, 499):
            self.assertEqual([samples[sample:]], decode_from(data, sample))
        self.assertLess(3000, start_point(data, 4000)[1])
