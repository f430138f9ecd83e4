"""Chapter 02: checksums, against a division that is written out here."""

from monochord.checksums import crc8, crc16, crc32
from tests.support import Case, picker

KINDS = ((crc8, 8, 0x07), (crc16, 16, 0x8005), (crc32, 32, 0x04C11DB7))


def remainder(data, start, width, polynomial):
    """The remainder of the data, with the start value in front of it, as one long division."""
    number = start << (8 * len(data))
    for at, byte in enumerate(data):
        number ^= byte << (width + 8 * (len(data) - 1 - at))
    divisor = (1 << width) | polynomial
    while number.bit_length() > width:
        number ^= divisor << (number.bit_length() - width - 1)
    return number


def big_endian(number, width):
    """The bytes of a number, most significant byte first."""
    return list(number.to_bytes(width // 8, "big"))


def samples_of_data(pick):
    """Byte lists of many lengths."""
    for length in list(range(20)) + [63, 64, 65, 200]:
        yield [pick.randrange(256) for _ in range(length)]
    yield [0] * 9
    yield [255] * 9


class ChecksumsTest(Case):
    def test_each_single_byte(self):
        for crc, width, polynomial in KINDS:
            for byte in range(256):
                self.assertEqual(remainder([byte], 0, width, polynomial), crc([byte]))

    def test_data_without_a_start_value(self):
        for crc, width, polynomial in KINDS:
            for data in samples_of_data(picker(2)):
                self.assertEqual(remainder(data, 0, width, polynomial), self.unchanged(crc, data))

    def test_data_with_a_start_value(self):
        pick = picker(3)
        for crc, width, polynomial in KINDS:
            starts = [0, 1, 2 ** (width - 1), 2 ** width - 1] + [pick.randrange(2 ** width) for _ in range(5)]
            for start in starts:
                for data in samples_of_data(pick):
                    expected = remainder(data, start, width, polynomial)
                    self.assertEqual(expected, self.unchanged(crc, data, start))
                    self.assertEqual(expected, crc(data, start=start))

    def test_no_byte_at_all(self):
        for crc, width, _ in KINDS:
            self.assertEqual(0, crc([]))
            for start in (0, 1, 77, 2 ** width - 1):
                self.assertEqual(start, crc([], start))

    def test_known_checksums(self):
        digits = [ord(sign) for sign in "123456789"]
        self.assertEqual(0xF4, crc8(digits))
        self.assertEqual(0xFEE8, crc16(digits))
        self.assertEqual(0x89A1897F, crc32(digits))

    def test_data_divided_at_every_place(self):
        pick = picker(4)
        data = [pick.randrange(256) for _ in range(40)]
        for crc, width, _ in KINDS:
            for start in (0, 2 ** width - 2):
                for at in range(len(data) + 1):
                    self.assertEqual(crc(data, start), crc(data[at:], crc(data[:at], start)))

    def test_data_followed_by_its_own_checksum(self):
        pick = picker(5)
        for crc, width, _ in KINDS:
            for data in samples_of_data(pick):
                self.assertEqual(0, crc(data + big_endian(crc(data), width)))
                start = pick.randrange(2 ** width)
                self.assertEqual(0, crc(data + big_endian(crc(data, start), width), start))

    def test_each_changed_bit_changes_the_checksum(self):
        data = [7, 0, 200, 31]
        for crc, _, _ in KINDS:
            for number in range(32):
                changed = list(data)
                changed[number // 8] ^= 1 << (number % 8)
                self.assertNotEqual(crc(data), crc(changed))
