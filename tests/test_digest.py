"""Chapter 03: digests and sample bytes."""

import hashlib

from monochord.digest import Md5, md5, sample_bytes
from tests.support import Case, picker

LENGTHS = tuple(range(201)) + (255, 256, 257, 1000, 4096)


def known(data):
    """The digest of a byte list, by Python's own library."""
    return list(hashlib.md5(bytes(data)).digest())


def any_bytes(seed, count):
    """A byte list."""
    pick = picker(seed)
    return [pick.randrange(256) for _ in range(count)]


class DigestTest(Case):
    def test_data_of_many_lengths(self):
        for length in LENGTHS:
            with self.subTest(length):
                data = any_bytes(length, length)
                self.assertEqual(known(data), self.unchanged(md5, data))

    def test_zeros_and_ones(self):
        for length in range(54, 67):
            for byte in (0, 128, 255):
                self.assertEqual(known([byte] * length), md5([byte] * length))

    def test_known_digests(self):
        cases = (
            ("", "d41d8cd98f00b204e9800998ecf8427e"),
            ("a", "0cc175b9c0f1b6a831c399e269772661"),
            ("message digest", "f96b697d7cb7938d525a2f31aaf161d0"),
        )
        for text, digest in cases:
            self.assertEqual(list(bytes.fromhex(digest)), md5([ord(sign) for sign in text]))

    def test_a_digest_is_a_list_of_integers(self):
        digest = md5([1])
        self.assertIs(list, digest.__class__)
        self.assertEqual([int] * 16, [byte.__class__ for byte in digest])


class PartsTest(Case):
    def test_each_division_in_two_parts(self):
        data = any_bytes(6, 140)
        for at in range(len(data) + 1):
            parts = Md5()
            self.assertIsNone(self.fed(parts, data[:at]))
            self.assertIsNone(self.fed(parts, data[at:]))
            self.assertEqual(known(data), parts.digest())

    def fed(self, parts, data):
        """Feed a part, and check that it stays as it was."""
        before = list(data)
        result = parts.feed(data)
        self.assertEqual(before, data)
        return result

    def test_many_parts_with_empty_ones_and_a_digest_after_each(self):
        pick = picker(7)
        for _ in range(20):
            parts = Md5()
            data = []
            self.assertEqual(known([]), parts.digest())
            for _ in range(12):
                part = any_bytes(pick.random(), pick.choice((0, 0, 1, 2, 7, 55, 56, 63, 64, 65, 128, 129)))
                parts.feed(part)
                data += part
                self.assertEqual(known(data), parts.digest())
                self.assertEqual(known(data), parts.digest())

    def test_one_byte_after_the_other(self):
        parts = Md5()
        data = any_bytes(8, 200)
        for at, byte in enumerate(data):
            parts.feed([byte])
            self.assertEqual(known(data[:at + 1]), parts.digest())

    def test_nothing_was_fed(self):
        self.assertEqual(known([]), Md5().digest())

    def test_a_returned_digest_that_is_changed(self):
        parts = Md5()
        parts.feed([1, 2, 3])
        digest = parts.digest()
        digest[0] ^= 255
        digest.append(1)
        self.assertEqual(known([1, 2, 3]), parts.digest())
        parts.feed([4])
        self.assertEqual(known([1, 2, 3, 4]), parts.digest())

    def test_a_list_that_is_changed_after_it_was_fed(self):
        for length in (1, 63, 64, 65, 130):
            data = any_bytes(9, length)
            expected = known(data)
            parts = Md5()
            parts.feed(data)
            data[0] ^= 255
            data[-1] ^= 255
            data.append(1)
            self.assertEqual(expected, parts.digest())

    def test_two_objects_side_by_side(self):
        one, two = Md5(), Md5()
        fed_one, fed_two = [], []
        for k in range(40):
            one.feed([k] * k)
            fed_one += [k] * k
            two.feed([k, 255 - k])
            fed_two += [k, 255 - k]
        self.assertEqual(known(fed_one), one.digest())
        self.assertEqual(known(fed_two), two.digest())


class SampleBytesTest(Case):
    def expected(self, channels, depth):
        """The sample bytes, by Python's own conversion of integers."""
        count = -(-depth // 8)
        data = []
        for at in range(len(channels[0])):
            for channel in channels:
                data += list(channel[at].to_bytes(count, "little", signed=True))
        return data

    def test_each_depth_at_both_ends_of_its_range(self):
        for depth in range(4, 33):
            low, high = -(1 << (depth - 1)), (1 << (depth - 1)) - 1
            channels = [[low, high, 0, -1, 1], [high, -1, low, 1, 0]]
            for some in (channels, channels[:1]):
                self.assertEqual(self.expected(some, depth), self.unchanged(sample_bytes, some, depth))

    def test_bytes_for_each_sample(self):
        for depth in range(4, 33):
            count = 1 if depth <= 8 else 2 if depth <= 16 else 3 if depth <= 24 else 4
            self.assertEqual([255] * count, sample_bytes([[-1]], depth))
            self.assertEqual([1] + [0] * (count - 1), sample_bytes([[1]], depth))

    def test_each_number_of_channels(self):
        pick = picker(10)
        for count in range(1, 9):
            for length in (0, 1, 2, 9):
                channels = [[pick.randrange(-2 ** 19, 2 ** 19) for _ in range(length)] for _ in range(count)]
                self.assertEqual(self.expected(channels, 20), self.unchanged(sample_bytes, channels, 20))

    def test_no_sample(self):
        for count in range(1, 9):
            self.assertEqual([], sample_bytes([[]] * count, 16))

    def test_the_digest_of_audio_is_that_of_its_sample_bytes(self):
        channels = [[1, -2], [300, 0]]
        self.assertEqual(known([1, 0, 44, 1, 254, 255, 0, 0]), md5(sample_bytes(channels, 12)))
