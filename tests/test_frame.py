"""Chapter 12: frames."""

from monochord.bits import BitReader, BitWriter
from monochord.checksums import crc16
from monochord.errors import (
    FrameChecksum, HeaderChecksum, InvalidForm, LostSync, OutOfRange, ReservedValue, Truncated,
)
from monochord.fixed import fixed_residuals
from monochord.frame import frame_bytes, read_frame, write_frame
from monochord.header import FrameHeader, write_header
from monochord.linear import linear_residuals
from monochord.stereo import split
from monochord.subframe import Subframe, write_subframe
from tests.support import Case, field, picker, signed, to_bits, to_bytes

STEREO = ("left-side", "side-right", "mid-side")


def header_of(size, channels, depth=16, assignment="independent", **changed):
    """A FrameHeader."""
    attributes = {"variable": False, "rate": 44100, "number": 3}
    attributes.update(changed)
    return FrameHeader(block_size=size, channels=channels, depth=depth, assignment=assignment, **attributes)


def fixed(samples, order, wasted=0):
    """A fixed Subframe for samples."""
    residuals = fixed_residuals([sample >> wasted for sample in samples], order)
    k = min(30, max([abs(residual) for residual in residuals] + [1]).bit_length())
    return Subframe("fixed", order=order, plan=(1, 0, (("rice", k),)), wasted=wasted)


def linear(samples, coefficients, shift):
    """A linear Subframe for samples."""
    residuals = linear_residuals(samples, coefficients, shift)
    k = min(30, max([abs(residual) for residual in residuals] + [1]).bit_length())
    return Subframe(
        "linear", order=len(coefficients), precision=15, shift=shift, coefficients=tuple(coefficients),
        plan=(1, 0, (("rice", k),)),
    )


def any_rows(pick, count, size, depth):
    """Rows of samples that do not fill their depth, so that no residual leaves its range."""
    top = 2 ** min(depth - 1, 12)
    return [[pick.randrange(-top, top) for _ in range(size)] for _ in range(count)]


def subframe_code(depth, row, subframe):
    """The bits of a subframe."""
    writer = BitWriter()
    write_subframe(writer, depth, row, subframe)
    return to_bits(writer.byte_list())[:writer.bits_written()]


def depths_of(header):
    """The depths of the rows, by the table of point 10.1."""
    depth = header.depth
    return {
        "independent": [depth] * header.channels, "left-side": [depth, depth + 1], "side-right": [depth + 1, depth],
        "mid-side": [depth, depth + 1],
    }[header.assignment]


def summed(data):
    """A frame's bytes with a right CRC-16."""
    total = crc16(data)
    return data + [total // 256, total % 256]


def coded(header, rows, subframes):
    """The bytes of a frame, by point 12.1."""
    bits = to_bits(write_header(header))
    for depth, row, subframe in zip(depths_of(header), rows, subframes):
        bits += subframe_code(depth, row, subframe)
    return summed(to_bytes(bits))


class WritingAndReadingTest(Case):
    def check(self, header, channels, subframes):
        """Check a frame of some channels that is written, and read back behind other bytes."""
        rows = channels
        if header.assignment != "independent":
            rows = list(split(header.assignment, *channels))
        expected = coded(header, rows, subframes)
        self.assertEqual(expected, self.unchanged(write_frame, header, rows, subframes))
        self.assertEqual(len(expected), self.unchanged(frame_bytes, header, rows, subframes))
        for before in ([], [255, 248, 7]):
            for behind in ([], [0], [255, 255, 255]):
                data = before + expected + behind
                reader = BitReader(data, len(before))
                result = read_frame(reader, 44100, header.depth)
                self.assertIs(tuple, result.__class__)
                again, joined, told = result
                self.assertTrue(header == again)
                self.assertEqual(channels, joined)
                self.assertIs(list, joined.__class__)
                self.assertEqual(subframes, told)
                self.assertIs(list, told.__class__)
                self.assertEqual(8 * (len(before) + len(expected)), reader.bit_place())
                self.assertEqual(before + expected + behind, data)

    def test_a_frame_by_hand(self):
        header = header_of(2, 1, depth=8, number=0)
        head = write_header(header)
        self.assertEqual(summed(head + [0, 7]), write_frame(header, [[7, 7]], [Subframe("constant")]))
        self.assertEqual(summed(head + [2, 7, 253]), write_frame(header, [[7, -3]], [Subframe("verbatim")]))
        # The bits of five bits of depth end inside a byte.
        header = header_of(2, 1, depth=5, number=0)
        self.assertEqual(
            summed(write_header(header) + [2, 0b00111111, 0b01000000]),
            write_frame(header, [[7, -3]], [Subframe("verbatim")]),
        )

    def test_any_number_of_channels(self):
        pick = picker(121)
        for channels in range(1, 9):
            for depth in (4, 8, 12, 13, 16, 24, 32):
                rows = any_rows(pick, channels, 20, depth)
                self.check(header_of(20, channels, depth), rows, [Subframe("verbatim")] * channels)
                self.check(header_of(20, channels, depth), rows, [fixed(row, 2) for row in rows])

    def test_each_kind_of_subframe(self):
        pick = picker(122)
        rows = any_rows(pick, 4, 64, 16)
        rows[0] = [-12] * 64
        rows.append([8 * sample for sample in rows[1]])
        subframes = [
            Subframe("constant", wasted=2), Subframe("verbatim"), fixed(rows[2], 4), linear(rows[3], [300, -21, 5], 8),
            fixed(rows[4], 1, 3),
        ]
        self.check(header_of(64, 5), rows, subframes)
        for row, subframe in zip(rows, subframes):
            self.check(header_of(64, 1), [row], [subframe])

    def test_the_stereo_assignments(self):
        pick = picker(123)
        for depth in range(4, 33):
            low, high = -(2 ** (depth - 1)), 2 ** (depth - 1) - 1
            left = [low, low, high, high, 0, -1, 1] + [pick.randrange(low, high + 1) for _ in range(9)]
            right = [low, high, low, high, -1, 0, -1] + [pick.randrange(low, high + 1) for _ in range(9)]
            for assignment in STEREO:
                header = header_of(16, 2, depth, assignment)
                self.check(header, [left, right], [Subframe("verbatim")] * 2)
                if depth < 30:
                    rows = split(assignment, left, right)
                    self.check(header, [left, right], [fixed(rows[0], 1), fixed(rows[1], 0)])

    def test_a_side_that_needs_its_additional_bit(self):
        for assignment in STEREO:
            for depth in (4, 8, 32):
                low, high = -(2 ** (depth - 1)), 2 ** (depth - 1) - 1
                header = header_of(3, 2, depth, assignment)
                self.check(header, [[low] * 3, [high] * 3], [Subframe("constant")] * 2)
                self.check(header, [[high] * 3, [low] * 3], [Subframe("constant")] * 2)

    def test_last_bits_inside_a_byte_and_at_a_boundary(self):
        for depth in range(4, 33):
            for size in range(1, 9):
                rows = [[at - 3 for at in range(size)]]
                self.check(header_of(size, 1, depth), rows, [Subframe("verbatim")])

    def test_other_headers(self):
        for variable, number in ((False, 2147483647), (True, 68719476735), (True, 0)):
            for rate in (44100, 4000, 4001, 655350):
                for size in (1, 192, 300):
                    header = header_of(size, 1, variable=variable, number=number, rate=rate)
                    self.check(header, [[5] * size], [Subframe("constant")])

    def test_the_rate_and_the_depth_of_the_stream_info(self):
        data = write_frame(header_of(3, 1, 13, rate=70001), [[1, 2, -4096]], [Subframe("verbatim")])
        header, channels, _ = read_frame(BitReader(data), 70001, 13)
        self.assertEqual((70001, 13), (header.rate, header.depth))
        self.assertEqual([[1, 2, -4096]], channels)
        header, channels, _ = read_frame(BitReader(data), 9, 13)
        self.assertEqual(9, header.rate)

    def test_a_large_frame(self):
        pick = picker(124)
        left = [pick.randrange(-20, 20) for _ in range(65535)]
        right = [sample + pick.randrange(2) for sample in left]
        rows = split("mid-side", left, right)
        self.check(header_of(65535, 2, 8, "mid-side"), [left, right], [fixed(rows[0], 1), fixed(rows[1], 0)])

    def test_frames_one_behind_the_other(self):
        pick = picker(125)
        channels = [any_rows(pick, 2, 20, 12) for _ in range(5)]
        data = []
        for number, rows in enumerate(channels):
            data += write_frame(header_of(20, 2, 12, number=number), rows, [fixed(row, 1) for row in rows])
        reader = BitReader(data)
        for number, rows in enumerate(channels):
            header, told, _ = read_frame(reader, 44100, 12)
            self.assertEqual((number, rows), (header.number, told))
        self.assertEqual(8 * len(data), reader.bit_place())


class WrongInputsTest(Case):
    """Point 12.2."""

    def check(self, kind, at, data, depth=16):
        """Check the error of some bytes behind others; `at` is the index of the field in them."""
        for before in ([], [255, 248, 9]):
            for behind in ([], [0, 0, 0]):
                whole = before + data + behind
                self.check_raises(kind, len(before) + at, read_frame, BitReader(whole, len(before)), 44100, depth)

    def frame(self, bits, header=None):
        """A frame of these bits behind the header, with a right checksum."""
        return summed(write_header(header or header_of(2, 1, 5)) + to_bytes(bits))

    def test_the_errors_of_the_header(self):
        data = write_frame(header_of(2, 1), [[7, 7]], [Subframe("constant")])
        self.check(LostSync, 0, summed([254] + data[1:-2]))
        self.check(LostSync, 1, summed([255, 250] + data[2:-2]))
        self.check(ReservedValue, 2, summed(data[:2] + [9] + data[3:-2]))
        self.check(HeaderChecksum, 6, summed(data[:6] + [data[6] ^ 1] + data[7:-2]))

    def test_the_errors_of_each_subframe(self):
        head = len(write_header(header_of(3, 2, 8)))
        self.check(InvalidForm, head, self.frame("1" + "0" * 60, header_of(3, 2, 8)), 8)
        self.check(ReservedValue, head, self.frame("0" + field(2, 6) + "0" * 60, header_of(3, 2, 8)), 8)
        first = "00000000" + signed(-3, 8)
        self.check(InvalidForm, head + 2, self.frame(first + "1" + "0" * 60, header_of(3, 2, 8)), 8)
        self.check(ReservedValue, head + 2, self.frame(first + "0" + field(31, 6) + "0" * 60, header_of(3, 2, 8)), 8)
        # A first sample of a fixed predictor of order 0 that has nine bits.
        wrong = "0" + field(8, 6) + "0" + "000000" + field(14, 4) + "0" + field(256, 14) + "10" * 30
        self.check(OutOfRange, head + 2, self.frame(first + wrong + "1" * 60, header_of(3, 2, 8)), 8)

    def test_the_subframes_in_order(self):
        head = len(write_header(header_of(3, 2, 8)))
        # The first subframe lacks its end, the second one would begin with a bit that is 1.
        self.check(ReservedValue, head, self.frame("0" + field(3, 6) + "0" + "1" * 60, header_of(3, 2, 8)), 8)

    def test_bits_of_the_padding(self):
        bits = "00000010" + signed(7, 5) + signed(-3, 5)
        head = len(write_header(header_of(2, 1, 5)))
        for at in range(6):
            padding = "0" * at + "1" + "0" * (5 - at)
            self.check(InvalidForm, head + 2, self.frame(bits + padding), 5)
            # This comes before a wrong checksum.
            self.check(InvalidForm, head + 2, self.frame(bits + padding)[:-2] + [1, 2], 5)
        self.check(InvalidForm, head + 2, self.frame(bits + "111111"), 5)
        self.assertEqual([[7, -3]], read_frame(BitReader(self.frame(bits)), 44100, 5)[1])

    def test_no_padding_at_a_boundary(self):
        # What follows is the checksum, whatever its bits are.
        header = header_of(8, 1, 5)
        data = write_frame(header, [[1] * 8], [Subframe("verbatim")])
        self.assertEqual(len(write_header(header)) + 6 + 2, len(data))
        self.check(FrameChecksum, len(data) - 2, data[:-2] + [255, 255], 5)

    def test_wrong_checksums(self):
        for rows, subframe in (([[7, 7]], Subframe("constant")), ([[7, -3]], Subframe("verbatim"))):
            data = write_frame(header_of(2, 1, 5), rows, [subframe])
            for bit in range(16):
                changed = list(data)
                changed[len(data) - 2 + bit // 8] ^= 128 >> bit % 8
                self.check(FrameChecksum, len(data) - 2, changed, 5)

    def test_the_checksum_covers_the_header_and_the_subframes(self):
        # The changed bits are bits of samples, so that nothing else is wrong.
        data = write_frame(header_of(3, 1, 8), [[7, -3, 2]], [Subframe("verbatim")])
        head = len(write_header(header_of(3, 1, 8)))
        for bit in range(8 * (head + 1), 8 * (len(data) - 2)):
            changed = list(data)
            changed[bit // 8] ^= 128 >> bit % 8
            self.check(FrameChecksum, len(data) - 2, changed, 8)
        body = data[head:-2]
        alone = data[:head] + summed(body)
        self.check(FrameChecksum, len(data) - 2, alone, 8)

    def test_the_checksum_does_not_cover_the_bytes_before_the_frame(self):
        data = write_frame(header_of(3, 1, 8), [[7, -3, 2]], [Subframe("verbatim")])
        whole = summed([1] + data[:-2])
        self.check_raises(FrameChecksum, len(whole) - 2, read_frame, BitReader(whole, 1), 44100, 8)

    def test_joined_samples_that_exceed_the_depth(self):
        # For each assignment, rows that fit their depths, and whose left or right does not fit.
        cases = (
            ("left-side", -8, 1), ("left-side", 7, -1), ("left-side", 7, -16), ("left-side", -8, -16),
            ("side-right", 1, 7), ("side-right", -1, -8), ("side-right", 15, 7), ("side-right", 15, 0),
            ("mid-side", 7, 2), ("mid-side", 7, -2), ("mid-side", -8, 2), ("mid-side", -8, -2),
            ("mid-side", 0, -16), ("mid-side", 0, 15),
        )
        seen = set()
        for assignment, first, second in cases:
            header = header_of(3, 2, 4, assignment)
            for at in range(3):
                rows = [[0] * 3, [0] * 3]
                rows[0][at], rows[1][at] = first, second
                left, right = self.joined(assignment, first, second)
                self.assertFalse(-8 <= left < 8 and -8 <= right < 8)
                seen.add((assignment, -8 <= left < 8, -8 <= right < 8))
                data = write_frame(header, rows, [Subframe("verbatim")] * 2)
                self.check(OutOfRange, 0, data, 4)
                # A wrong checksum comes before this.
                self.check(FrameChecksum, len(data) - 2, data[:-1] + [data[-1] ^ 1], 4)
        self.assertTrue({
            ("left-side", True, False), ("side-right", False, True), ("mid-side", True, False),
            ("mid-side", False, True),
        } <= seen)

    def joined(self, assignment, first, second):
        """Left and right, computed from the first and the second row."""
        if assignment == "left-side":
            return first, first - second
        if assignment == "side-right":
            return second + first, second
        double = 2 * first + second % 2
        return (double + second) // 2, (double - second) // 2

    def test_joined_samples_at_the_ends_of_the_depth(self):
        for assignment, first, second in (
            ("left-side", -8, -15), ("left-side", 7, 15), ("side-right", 15, -8), ("side-right", -15, 7),
            ("mid-side", -1, 15), ("mid-side", -1, -15), ("mid-side", 7, 0), ("mid-side", -8, 0),
        ):
            left, right = self.joined(assignment, first, second)
            data = write_frame(
                header_of(1, 2, 4, assignment), [[first], [second]], [Subframe("verbatim")] * 2
            )
            if -8 <= left < 8 and -8 <= right < 8:
                self.assertEqual([[left], [right]], read_frame(BitReader(data), 44100, 4)[1])
            else:
                self.check(OutOfRange, 0, data, 4)

    def test_frames_that_are_cut_off(self):
        pick = picker(126)
        rows = any_rows(pick, 2, 10, 12)
        many = [
            (header_of(10, 2, 12), rows, [Subframe("verbatim"), fixed(rows[1], 2)]),
            (header_of(10, 2, 12, "mid-side"), rows, [fixed(rows[0], 1), linear(rows[1], [3, 4], 1)]),
            (header_of(10, 1, 12, rate=4001, number=700), [[5] * 10], [Subframe("constant")]),
        ]
        for header, rows, subframes in many:
            data = write_frame(header, rows, subframes)
            for cut in range(len(data)):
                self.check_raises(Truncated, cut, read_frame, BitReader(data[:cut]), 44100, 12)
                reader = BitReader([255, 0] + data[:cut], 2)
                self.check_raises(Truncated, cut + 2, read_frame, reader, 44100, 12)
