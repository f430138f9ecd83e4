"""Chapter 11: frame headers."""

from monochord.bits import BitReader
from monochord.checksums import crc8
from monochord.coded import write_number
from monochord.errors import HeaderChecksum, InvalidForm, LostSync, ReservedValue, Truncated
from monochord.header import FrameHeader, header_bytes, read_header, write_header
from tests.support import Case, field, picker, to_bits, to_bytes

SIZE_CODES = {
    192: 1, 576: 2, 1152: 3, 2304: 4, 4608: 5, 256: 8, 512: 9, 1024: 10, 2048: 11, 4096: 12, 8192: 13, 16384: 14,
    32768: 15,
}
RATE_CODES = {
    88200: 1, 176400: 2, 192000: 3, 8000: 4, 16000: 5, 22050: 6, 24000: 7, 32000: 8, 44100: 9, 48000: 10, 96000: 11,
}
DEPTH_CODES = {8: 1, 12: 2, 16: 4, 20: 5, 24: 6, 32: 7}
STEREO_CODES = {"left-side": 8, "side-right": 9, "mid-side": 10}

FULL = {
    "variable": False, "block_size": 192, "rate": 44100, "channels": 2, "assignment": "mid-side", "depth": 16,
    "number": 5,
}


def header_of(**changed):
    """A FrameHeader with some attributes changed."""
    return FrameHeader(**{**FULL, **changed})


def size_fields(size):
    """The code of a block size and the bits that it asks for, by point 11.6."""
    if size in SIZE_CODES:
        return SIZE_CODES[size], ""
    if size <= 256:
        return 6, field(size - 1, 8)
    return 7, field(size - 1, 16)


def rate_fields(rate):
    """The code of a rate and the bits that it asks for, by point 11.6."""
    if rate in RATE_CODES:
        return RATE_CODES[rate], ""
    if rate in range(1000, 255001, 1000):
        return 12, field(rate // 1000, 8)
    if rate in range(1, 65536):
        return 13, field(rate, 16)
    if rate in range(10, 655351, 10):
        return 14, field(rate // 10, 16)
    return 0, ""


def parts_of(header):
    """The bits of the fields of a header in order, without its checksum."""
    size_code, size_bits = size_fields(header.block_size)
    rate_code, rate_bits = rate_fields(header.rate)
    return parts(
        strategy=int(header.variable), size=size_code, rate=rate_code,
        channel=STEREO_CODES.get(header.assignment, header.channels - 1), depth=DEPTH_CODES.get(header.depth, 0),
        number=to_bits(write_number(header.number)), behind=size_bits + rate_bits,
    )


def parts(
    sync=16382, zero=0, strategy=0, size=8, rate=9, channel=0, depth=4, second=0, number="00000101", behind=""
):
    """The bits of the fields of a header in order, from codes."""
    return [
        field(sync, 14), field(zero, 1), field(strategy, 1), field(size, 4), field(rate, 4), field(channel, 4),
        field(depth, 3), field(second, 1), number, behind,
    ]


def summed(bits):
    """The bytes of a header with a right checksum."""
    data = to_bytes(bits)
    return data + [crc8(data)]


def bytes_of(**codes):
    """The bytes of a header from its codes, with a right checksum."""
    return summed("".join(parts(**codes)))


def read_at(data, at, rate=1, depth=9):
    """The header at an index, and the index behind it."""
    reader = BitReader(data, at)
    header = read_header(reader, rate, depth)
    assert reader.aligned()
    return header, reader.byte_place()


class HeaderTest(Case):
    def test_equality(self):
        changes = (
            ("variable", True), ("block_size", 193), ("rate", 44101), ("channels", 1), ("assignment", "left-side"),
            ("assignment", "independent"), ("depth", 17), ("depth", 15), ("number", 0), ("number", 6),
        )
        self.check_equality(FrameHeader, FULL, changes)

    def test_all_arguments_are_passed_by_keyword(self):
        with self.assertRaises(TypeError):
            FrameHeader(*FULL.values())


class WritingAndReadingTest(Case):
    def check(self, **changed):
        """Check a header that is written, and read back behind some bytes."""
        header = header_of(**changed)
        expected = summed("".join(parts_of(header)))
        self.assertEqual(expected, self.unchanged(write_header, header))
        self.assertEqual(len(expected), self.unchanged(header_bytes, header))
        for before in ([], [255], [1, 2, 3]):
            for behind in ([], [255, 0]):
                data = before + expected + behind
                again, place = read_at(data, len(before))
                self.assertTrue(header == again, (header.__dict__, again.__dict__))
                self.assertIs(bool, again.variable.__class__)
                self.assertEqual(len(before) + len(expected), place)
                self.assertEqual(before + expected + behind, data)

    def test_a_header_by_hand(self):
        self.assertEqual([255, 248, 25, 168, 5], write_header(header_of())[:-1])
        data = write_header(header_of(variable=True, block_size=300, rate=4000, channels=3, assignment="independent",
                                      depth=9, number=128))
        self.assertEqual([255, 249, 124, 32, 194, 128, 1, 43, 4], data[:-1])
        self.assertEqual(0, crc8(data))

    def test_block_sizes(self):
        for size in list(SIZE_CODES) + [1, 2, 16, 100, 191, 193, 255, 257, 258, 4095, 4097, 65534, 65535]:
            for rate in (44100, 4000, 4001, 100000, 655350):
                self.check(block_size=size, rate=rate)

    def test_bounds_of_block_sizes(self):
        for size, code in ((1, 6), (255, 6), (256, 8), (257, 7), (65535, 7)):
            self.assertEqual(code, write_header(header_of(block_size=size))[2] >> 4)

    def test_rates(self):
        rates = list(RATE_CODES) + [
            1, 9, 10, 999, 1000, 1001, 7000, 8001, 65000, 65534, 65535, 65540, 65550, 66000, 254000, 255000, 255010,
            256000, 300000, 655340, 655350,
        ]
        for rate in rates:
            for size in (192, 100, 300):
                self.check_rate(rate, size)

    def check_rate(self, rate, size):
        """Check a header with a rate that its code or a field tells."""
        header = header_of(rate=rate, block_size=size)
        expected = summed("".join(parts_of(header)))
        self.assertEqual(expected, write_header(header))
        self.assertEqual(len(expected), header_bytes(header))
        for told in (0, 1, rate, 1048575):
            self.assertEqual((header, len(expected)), read_at(expected, 0, told, 9))

    def test_bounds_of_rates(self):
        bounds = (
            (0, 0), (1, 13), (999, 13), (1000, 12), (1001, 13), (255000, 12), (256000, 14), (65535, 13), (65536, 0),
            (65540, 14), (655350, 14), (655360, 0), (656000, 0), (1048575, 0), (65545, 0), (64000, 12), (96000, 11),
        )
        for rate, code in bounds:
            self.assertEqual(code, write_header(header_of(rate=rate))[2] & 15, rate)

    def test_rates_for_which_there_is_no_code(self):
        for rate in (0, 65536, 65537, 65539, 255001, 655351, 655360, 700000, 1000000, 1048570, 1048575):
            header = header_of(rate=rate)
            data = write_header(header)
            self.assertEqual(6, len(data))
            self.assertTrue(header == read_at(data, 0, rate, 9)[0])
            for told in (0, 1, 44100, 1048575):
                self.assertTrue(header_of(rate=told) == read_at(data, 0, told, 9)[0])

    def test_depths(self):
        for depth in range(4, 33):
            header = header_of(depth=depth)
            data = write_header(header)
            self.assertEqual(summed("".join(parts_of(header))), data)
            self.assertEqual(DEPTH_CODES.get(depth, 0), data[3] >> 1 & 7)
            for told in (4, 9, 16, 32, depth):
                expected = depth if depth in DEPTH_CODES else told
                self.assertTrue(header_of(depth=expected) == read_at(data, 0, 1, told)[0])

    def test_channels(self):
        for channels in range(1, 9):
            self.check(channels=channels, assignment="independent")
            data = write_header(header_of(channels=channels, assignment="independent"))
            self.assertEqual(channels - 1, data[3] >> 4)
        for assignment, code in STEREO_CODES.items():
            self.check(assignment=assignment)
            self.assertEqual(code, write_header(header_of(assignment=assignment))[3] >> 4)

    def test_numbers_of_any_length(self):
        for number in (0, 127, 128, 2047, 2048, 65535, 65536, 2 ** 21 - 1, 2 ** 21, 2 ** 26 - 1, 2 ** 26, 2147483647):
            for variable in (False, True):
                self.check(number=number, variable=variable)
        for number in (2147483648, 2 ** 32, 68719476734, 68719476735):
            self.check(number=number, variable=True)
        self.assertEqual(16, header_bytes(header_of(number=2 ** 31, variable=True, block_size=300, rate=4001)))

    def test_any_headers(self):
        pick = picker(111)
        for _ in range(300):
            self.check(
                variable=pick.choice((False, True)), block_size=pick.choice((pick.randrange(1, 300), 4096, 65535)),
                rate=pick.choice((pick.randrange(1, 65536), pick.randrange(1, 65536) * 10)),
                depth=pick.choice(list(DEPTH_CODES)), number=pick.randrange(2 ** pick.randrange(1, 31)),
            )


class ReadingTest(Case):
    def test_every_block_size_code(self):
        for size, code in SIZE_CODES.items():
            self.assertEqual(size, read_at(bytes_of(size=code), 0)[0].block_size)
        for value in range(256):
            self.assertEqual(value + 1, read_at(bytes_of(size=6, behind=field(value, 8)), 0)[0].block_size)
        for value in (0, 1, 15, 191, 255, 256, 4095, 65533, 65534):
            self.assertEqual(value + 1, read_at(bytes_of(size=7, behind=field(value, 16)), 0)[0].block_size)

    def test_every_rate_code(self):
        for rate, code in RATE_CODES.items():
            self.assertEqual(rate, read_at(bytes_of(rate=code), 0)[0].rate)
        for rate in (0, 1, 44100, 1048575):
            self.assertEqual(rate, read_at(bytes_of(rate=0), 0, rate)[0].rate)
        for value in range(256):
            self.assertEqual(value * 1000, read_at(bytes_of(rate=12, behind=field(value, 8)), 0)[0].rate)
        for value in (0, 1, 44, 8000, 44100, 65535):
            self.assertEqual(value, read_at(bytes_of(rate=13, behind=field(value, 16)), 0)[0].rate)
            self.assertEqual(value * 10, read_at(bytes_of(rate=14, behind=field(value, 16)), 0)[0].rate)

    def test_the_block_size_stands_before_the_rate(self):
        for size, bits, expected in ((6, field(77, 8), 78), (7, field(1077, 16), 1078)):
            for rate, more, told in ((12, field(9, 8), 9000), (13, field(999, 16), 999), (14, field(7, 16), 70)):
                header = read_at(bytes_of(size=size, rate=rate, behind=bits + more), 0)[0]
                self.assertEqual((expected, told), (header.block_size, header.rate))

    def test_every_channel_code(self):
        for code in range(8):
            header = read_at(bytes_of(channel=code), 0)[0]
            self.assertEqual((code + 1, "independent"), (header.channels, header.assignment))
        for assignment, code in STEREO_CODES.items():
            header = read_at(bytes_of(channel=code), 0)[0]
            self.assertEqual((2, assignment), (header.channels, header.assignment))

    def test_every_depth_code(self):
        for depth, code in DEPTH_CODES.items():
            self.assertEqual(depth, read_at(bytes_of(depth=code), 0, 1, 9)[0].depth)
        for depth in range(4, 33):
            self.assertEqual(depth, read_at(bytes_of(depth=0), 0, 1, depth)[0].depth)

    def test_both_strategies(self):
        self.assertIs(False, read_at(bytes_of(strategy=0), 0)[0].variable)
        self.assertIs(True, read_at(bytes_of(strategy=1), 0)[0].variable)

    def test_forms_that_are_longer_than_necessary(self):
        # Another writer may tell a rate or a size in a field though the tables have a code for it.
        self.assertEqual(192, read_at(bytes_of(size=7, behind=field(191, 16)), 0)[0].block_size)
        self.assertEqual(256, read_at(bytes_of(size=6, behind=field(255, 8)), 0)[0].block_size)
        self.assertEqual(48000, read_at(bytes_of(rate=12, behind=field(48, 8)), 0)[0].rate)
        self.assertEqual(48000, read_at(bytes_of(rate=14, behind=field(4800, 16)), 0)[0].rate)


class WrongInputsTest(Case):
    """Point 11.5."""

    def check(self, kind, at, data, more=()):
        """Check the error of some bytes behind others; `at` is the index of the field in them."""
        for before in ([], [255], [255, 248, 9]):
            for behind in ([], [0], list(more)):
                whole = before + data + behind
                self.check_raises(kind, len(before) + at, read_header, BitReader(whole, len(before)), 1, 9)

    def check_codes(self, kind, at, **codes):
        """Check the error of a header from its codes."""
        self.check(kind, at, bytes_of(**codes))

    def test_sync_codes(self):
        for sync in (0, 1, 8191, 8192, 16381, 16383, 12286):
            self.check_codes(LostSync, 0, sync=sync)
            self.check_codes(LostSync, 0, sync=sync, zero=1)
            self.check(LostSync, 0, to_bytes(field(sync, 14)))

    def test_a_wrong_bit_behind_the_sync_code(self):
        self.check_codes(LostSync, 1, zero=1)
        self.check_codes(LostSync, 1, zero=1, strategy=1, size=0)
        self.check(LostSync, 1, [255, 250])

    def test_block_size_code_0(self):
        for rate in (0, 9, 15):
            self.check_codes(ReservedValue, 2, size=0, rate=rate)
        self.check(ReservedValue, 2, [255, 248, 15])

    def test_rate_code_15(self):
        for size in (1, 6, 7, 15):
            self.check_codes(InvalidForm, 2, size=size, rate=15, channel=15)
        self.check(InvalidForm, 2, [255, 248, 31])

    def test_reserved_channel_codes(self):
        for code in range(11, 16):
            for depth in (0, 3, 4):
                self.check_codes(ReservedValue, 3, channel=code, depth=depth)
        self.check(ReservedValue, 3, [255, 248, 25, 176])

    def test_depth_code_3(self):
        for second in (0, 1):
            self.check_codes(ReservedValue, 3, depth=3, second=second)
        self.check(ReservedValue, 3, [255, 248, 25, 6])

    def test_a_wrong_bit_behind_the_depth(self):
        for depth in (0, 1, 2, 4, 5, 6, 7):
            self.check_codes(ReservedValue, 3, depth=depth, second=1, number=field(255, 8))
        self.check(ReservedValue, 3, [255, 248, 25, 9])

    def test_the_errors_of_the_number(self):
        for first in (128, 191, 255):
            self.check_codes(InvalidForm, 4, number=field(first, 8), size=7, behind=field(65535, 16))
            self.check(InvalidForm, 4, [255, 248, 25, 8, first])
        self.check_codes(InvalidForm, 5, number=to_bits([194, 65]))
        self.check_codes(InvalidForm, 7, number=to_bits([240, 144, 128, 192]))
        self.check_codes(InvalidForm, 4, number=to_bits([193, 128]))

    def test_numbers_of_frames_that_exceed_their_maximum(self):
        for number in (2147483648, 2 ** 33, 68719476735):
            bits = to_bits(write_number(number))
            self.check_codes(InvalidForm, 4, number=bits)
            self.check_codes(InvalidForm, 4, number=bits, size=7, behind=field(65535, 16))
            self.assertEqual(number, read_at(bytes_of(number=bits, strategy=1), 0)[0].number)
        self.assertEqual(2147483647, read_at(bytes_of(number=to_bits(write_number(2147483647))), 0)[0].number)

    def test_a_block_size_of_65536(self):
        for number in (0, 127, 128, 70000):
            bits = to_bits(write_number(number))
            for rate, more in ((9, ""), (12, field(9, 8)), (13, field(9, 16))):
                place = 4 + len(bits) // 8
                self.check_codes(InvalidForm, place, number=bits, size=7, rate=rate, behind=field(65535, 16) + more)
        self.check(InvalidForm, 5, [255, 248, 121, 8, 0, 255, 255])

    def test_wrong_checksums(self):
        for codes in ({}, {"size": 6, "behind": field(9, 8)}, {"rate": 14, "behind": field(9, 16)},
                      {"size": 7, "rate": 13, "behind": field(9, 32), "number": to_bits(write_number(70000))}):
            data = bytes_of(**codes)
            for change in (1, 128, 255):
                self.check(HeaderChecksum, len(data) - 1, data[:-1] + [data[-1] ^ change])

    def test_the_checksum_is_that_of_the_header_alone(self):
        # The bytes before the header would change it.
        data = [7, 9, 200] + bytes_of()
        self.assertEqual(len(data), read_at(data, 3)[1])
        whole = [7] + to_bytes("".join(parts()))
        self.check_raises(HeaderChecksum, 6, read_header, BitReader(whole + [crc8(whole)], 1), 1, 9)

    def test_each_changed_bit_is_found(self):
        data = bytes_of(size=7, rate=13, behind=field(300, 16) + field(4001, 16), number=to_bits(write_number(700)))
        for bit in range(8 * len(data)):
            changed = list(data)
            changed[bit // 8] ^= 128 >> bit % 8
            with self.assertRaises(ValueError):
                read_header(BitReader(changed), 1, 9)

    def test_headers_that_are_cut_off(self):
        for codes in ({}, {"size": 6, "behind": field(9, 8)}, {"rate": 12, "behind": field(9, 8)},
                      {"size": 7, "rate": 13, "behind": field(9, 32), "number": to_bits(write_number(70000))},
                      {"rate": 14, "behind": field(9, 16), "number": to_bits(write_number(2 ** 31)), "strategy": 1}):
            data = bytes_of(**codes)
            for cut in range(len(data)):
                self.check_raises(Truncated, cut, read_header, BitReader(data[:cut]), 1, 9)
                self.check_raises(Truncated, cut + 2, read_header, BitReader([255, 248] + data[:cut], 2), 1, 9)

    def test_a_field_that_is_not_complete(self):
        # The first byte alone is wrong, but the sync code has fourteen bits.
        self.check_raises(Truncated, 1, read_header, BitReader([0]), 1, 9)
        self.check_raises(Truncated, 0, read_header, BitReader([]), 1, 9)
        self.check_raises(Truncated, 6, read_header, BitReader([255, 248, 121, 8, 0, 255]), 1, 9)

    def test_two_faults_in_one_header(self):
        faults = (
            (LostSync, 0, {"sync": 16383}), (LostSync, 1, {"zero": 1}), (ReservedValue, 2, {"size": 0}),
            (InvalidForm, 2, {"rate": 15}), (ReservedValue, 3, {"channel": 11}), (ReservedValue, 3, {"depth": 3}),
            (ReservedValue, 3, {"second": 1}), (InvalidForm, 4, {"number": field(128, 8)}),
            (InvalidForm, 5, {"behind": field(65535, 16)}),
        )
        for at, (kind, place, codes) in enumerate(faults):
            for _, _, others in faults[at + 1:]:
                both = {"size": 7, "behind": field(9, 16), **others, **codes}
                data = bytes_of(**both)
                self.check(kind, place, data)
                self.check(kind, place, data[:-1] + [data[-1] ^ 1])
