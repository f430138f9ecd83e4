"""Chapter 29: wave files."""

import io
import struct
import wave

from monochord.audio import Audio
from monochord.errors import (
    Disagreement, InvalidForm, NotAStream, OutOfOrder, OutOfRange, ReservedValue, Truncated,
)
from monochord.wave import read_wave, write_wave
from tests.streams import RATES, any_audio, ends_of
from tests.support import Case, picker

SIGN = [1, 0, 0, 0, 0, 0, 16, 0, 128, 0, 0, 170, 0, 56, 155, 113]


def little(number, count):
    """The bytes of a number, the least significant one first."""
    return list((number % 256 ** count).to_bytes(count, "little"))


def chunk(name, content, length=None):
    """A chunk."""
    size = len(content) if length is None else length
    return list(name) + little(size, 4) + content + [0] * (len(content) % 2)


def file_of(*chunks):
    """A wave file of chunks."""
    content = sum(chunks, [])
    return list(b"RIFF") + little(4 + len(content), 4) + list(b"WAVE") + content


def form(first=1, count=1, rate=8000, bits=8, depth=None, row=None, sign=SIGN, more=(), cut=None):
    """A format chunk."""
    content = little(first, 2) + little(count, 2) + little(rate, 4)
    content += little(rate * count * bits // 8, 4) + little(count * bits // 8 if row is None else row, 2)
    content += little(bits, 2)
    if first == 65534:
        content += [22, 0] + little(bits if depth is None else depth, 2) + [0] * 4 + list(sign)
    content += list(more)
    return chunk(b"fmt ", content[:cut])


def written(audio):
    """The bytes of a wave file, by points 29.1 to 29.3."""
    n, count = audio.depth, len(audio.channels)
    c = -(-n // 8)
    data = []
    for row in zip(*audio.channels):
        for sample in row:
            number = sample * 2 ** (8 * c - n)
            data += little(number + 128 if c == 1 else number, c)
    first = 1 if n in (8, 16, 24, 32) and count < 3 else 65534
    return file_of(form(first, count, audio.rate, 8 * c, n), chunk(b"data", data))


def equal(a, b):
    """True if two Audios agree."""
    return (a.rate, a.depth, a.channels) == (b.rate, b.depth, b.channels)


class ThereAndBackTest(Case):
    def check(self, audio):
        """Check a file that is written and read back."""
        data = self.unchanged(write_wave, audio)
        self.assertEqual(written(audio), data)
        told = self.unchanged(read_wave, data)
        self.assertIs(Audio, told.__class__)
        self.assertTrue(equal(audio, told))
        self.assertTrue(audio == told)

    def test_every_depth_and_number_of_channels(self):
        pick = picker(291)
        for depth in range(4, 33):
            for count in range(1, 9):
                for length in (0, 1, 2, pick.randint(3, 20)):
                    self.check(any_audio(pick, depth, count, length, pick.choice(RATES)))

    def test_extreme_samples(self):
        for depth in range(4, 33):
            low, high = ends_of(depth)
            self.check(Audio(1048575, depth, [[low, -1, 0, 1, high]]))
            self.check(Audio(1048575, depth, [[low, high], [high, low], [0, -1]]))

    def test_by_hand(self):
        data = write_wave(Audio(8000, 8, [[0, -128]]))
        self.assertEqual(
            list(b"RIFF") + [38, 0, 0, 0] + list(b"WAVEfmt ") + [16, 0, 0, 0, 1, 0, 1, 0, 64, 31, 0, 0, 64, 31, 0, 0]
            + [1, 0, 8, 0] + list(b"data") + [2, 0, 0, 0, 128, 0], data,
        )
        # An odd length has a zero byte behind it, which the length of the file counts.
        data = write_wave(Audio(8000, 8, [[1]]))
        self.assertEqual([38, 0, 0, 0], data[4:8])
        self.assertEqual([1, 0, 0, 0, 129, 0], data[-6:])
        data = write_wave(Audio(48000, 12, [[-1, 3], [0, 0], [-2048, 2047]]))
        self.assertEqual([40, 0, 0, 0, 254, 255, 3, 0, 128, 187, 0, 0, 0, 101, 4, 0, 6, 0, 16, 0], data[16:36])
        self.assertEqual([22, 0, 12, 0, 0, 0, 0, 0] + SIGN, data[36:60])
        self.assertEqual([12, 0, 0, 0, 240, 255, 0, 0, 0, 128, 48, 0, 0, 0, 240, 127], data[64:])
        self.assertEqual([0, 240], write_wave(Audio(8000, 4, [[-8, 7]]))[-2:])

    def test_the_first_number(self):
        for depth in range(4, 33):
            for count in range(1, 9):
                data = write_wave(Audio(8000, depth, [[]] * count))
                plain = depth in (8, 16, 24, 32) and count <= 2
                self.assertEqual([1, 0] if plain else [254, 255], data[20:22])
                self.assertEqual(44 if plain else 68, len(data))

    def test_a_rate_of_bytes_beyond_32_bits(self):
        # It is reduced modulo 2^32 only if the rate exceeds its bounds; the greatest one is written whole.
        data = write_wave(Audio(1048575, 32, [[]] * 8))
        self.assertEqual(little(1048575 * 32, 4), data[28:32])

    def test_pythons_own_reader_agrees(self):
        pick = picker(292)
        for depth in (8, 16, 24, 32):
            for count in (1, 2):
                audio = any_audio(pick, depth, count, 11)
                with wave.open(io.BytesIO(bytes(write_wave(audio)))) as told:
                    self.assertEqual(
                        (count, depth // 8, 8000, 11),
                        (told.getnchannels(), told.getsampwidth(), told.getframerate(), told.getnframes()),
                    )
                    self.assertEqual(list(told.readframes(11)), write_wave(audio)[44:44 + 11 * count * depth // 8])


class OtherFilesTest(Case):
    def check(self, audio, data):
        """Check what is read from a file."""
        told = self.unchanged(read_wave, data)
        self.assertTrue(equal(audio, told), (told.rate, told.depth, told.channels))

    def test_ignored_parts(self):
        expected = Audio(8000, 8, [[0, -128]])
        samples = chunk(b"data", [128, 0])
        plain = file_of(form(), samples)
        self.check(expected, plain)
        for at in (4, 5, 6, 7, 28, 29, 30, 31):
            changed = list(plain)
            changed[at] ^= 255
            self.check(expected, changed)
        extended = file_of(form(65534), samples)
        self.check(expected, extended)
        for at in (16, 17, 20, 21, 22, 23):
            changed = list(extended)
            changed[20 + at] ^= 255
            self.check(expected, changed)
        for more in ([0], [7], [1, 2, 3], [9] * 24, [9] * 50):
            self.check(expected, file_of(form(more=more), samples))
            self.check(expected, file_of(form(65534, more=more), samples))

    def test_other_chunks(self):
        expected = Audio(8000, 8, [[0, -128]])
        samples = chunk(b"data", [128, 0])
        for other in (chunk(b"LIST", [1, 2, 3]), chunk(b"fmt_", []), chunk(b"Data", [5] * 300), chunk([0] * 4, [1])):
            self.check(expected, file_of(other, form(), samples))
            self.check(expected, file_of(form(), other, samples))
            self.check(expected, file_of(other, other, form(), other, other, samples))
            self.check(expected, file_of(form(), samples, other, form(), samples))
        self.check(expected, file_of(form(), samples) + [1, 2, 3])
        self.check(expected, file_of(form(more=[5]), samples))

    def test_an_odd_chunk_without_its_zero_byte(self):
        expected = Audio(8000, 8, [[0, -128, 5]])
        data = file_of(form(), chunk(b"data", [128, 0, 133]))
        self.check(expected, data)
        self.check(expected, data[:-1])
        self.check(expected, data[:-1] + [77])
        # The byte behind an odd content is skipped, whatever it is.
        middle = chunk(b"LIST", [1, 2, 3])
        middle[-1] = 99
        self.check(expected, file_of(form(), middle, chunk(b"data", [128, 0, 133])))

    def test_both_first_numbers_with_any_number_of_channels(self):
        for count in range(1, 9):
            samples = chunk(b"data", list(range(2 * count)))
            expected = [[at - 128, at + count - 128] for at in range(count)]
            for first in (1, 65534):
                self.check(Audio(8000, 8, expected), file_of(form(first, count), samples))

    def test_depths_of_stored_samples(self):
        for bits in (8, 16, 24, 32):
            for depth in range(max(4, bits - 7), bits + 1):
                low, high = ends_of(depth)
                shift = bits - depth
                data = []
                for sample in (low, high, 0, -1):
                    data += little((sample << shift) + (128 if bits == 8 else 0), bits // 8)
                self.check(
                    Audio(8000, depth, [[low, high, 0, -1]]),
                    file_of(form(65534, bits=bits, depth=depth), chunk(b"data", data)),
                )


class ErrorsTest(Case):
    SAMPLES = chunk(b"data", [128, 0])

    def check(self, kind, place, data):
        """Check the error of a file."""
        self.check_raises(kind, place, read_wave, data)

    def test_the_file(self):
        data = file_of(form(), self.SAMPLES)
        for length in range(12):
            self.check(Truncated, length, data[:length])
            self.check(Truncated, length, [1] * length)
        for at in range(4):
            changed = list(data)
            changed[at] ^= 1
            self.check(NotAStream, 0, changed)
            self.check(NotAStream, 0, changed[:12])
            changed[8] ^= 1
            self.check(NotAStream, 0, changed)
            changed = list(data)
            changed[8 + at] ^= 1
            self.check(NotAStream, 8, changed)

    def test_cut_off_at_every_byte(self):
        for data in (
            file_of(chunk(b"LIST", [1, 2, 3]), form(), self.SAMPLES),
            file_of(form(65534, 3, bits=16, depth=12), chunk(b"data", [0] * 12)),
        ):
            for length in range(len(data)):
                self.check(Truncated, length, data[:length])
            self.assertIs(Audio, read_wave(data).__class__)

    def test_no_data_chunk(self):
        for chunks in ([], [form()], [form(), chunk(b"LIST", [1])], [form(more=[1])]):
            data = file_of(*chunks)
            self.check(Truncated, len(data), data)
            self.check(Truncated, len(data) + 3, data + [100, 97, 116])
        data = file_of(form(), chunk(b"LIST", [1]))
        self.check(Truncated, len(data) - 1, data[:-1])

    def test_an_incomplete_chunk_comes_before_its_other_errors(self):
        whole = file_of(form(first=9))
        self.check(ReservedValue, 20, whole)
        self.check(Truncated, len(whole) - 1, whole[:-1])
        whole = file_of(form(), form())
        self.check(OutOfOrder, 36, whole)
        self.check(Truncated, len(whole) - 1, whole[:-1])
        whole = file_of(self.SAMPLES)
        self.check(OutOfOrder, 12, whole)
        self.check(Truncated, len(whole) - 1, whole[:-1])
        whole = file_of(form(), chunk(b"LIST", [1, 2], 2 ** 32 - 1), self.SAMPLES)
        self.check(Truncated, len(whole), whole)
        whole = file_of(form(), chunk(b"LIST", [1, 2], 2 ** 24 + 2), self.SAMPLES)
        self.check(Truncated, len(whole), whole)
        whole = file_of(form(), chunk(b"data", [1, 2], 4))
        self.check(Truncated, len(whole), whole)

    def test_the_order_of_chunks(self):
        self.check(OutOfOrder, 36, file_of(form(), form(), self.SAMPLES))
        self.check(OutOfOrder, 36, file_of(form(), form(first=9), self.SAMPLES))
        self.check(OutOfOrder, 36 + 12, file_of(form(), chunk(b"LIST", [1, 2, 3]), form(cut=3), self.SAMPLES))
        self.check(OutOfOrder, 12, file_of(self.SAMPLES, form()))
        self.check(OutOfOrder, 12 + 10, file_of(chunk(b"LIST", [1, 2]), chunk(b"data", [1, 2, 3]), form()))

    def test_the_format_chunk(self):
        def file(**changed):
            return file_of(form(**changed), self.SAMPLES)

        q = 20
        for cut in range(16):
            self.check(InvalidForm, q - 4, file(cut=cut, first=9))
        for first in (0, 2, 3, 255, 256, 257, 65533, 65535):
            self.check(ReservedValue, q, file(first=first, count=9))
        for cut in range(16, 40):
            self.check(InvalidForm, q - 4, file(first=65534, cut=cut, count=0))
        for count in (0, 9, 255, 256, 257, 65535):
            self.check(OutOfRange, q + 2, file(count=count, rate=2 ** 20, row=count % 65536))
            self.check(OutOfRange, q + 2, file(first=65534, count=count, rate=2 ** 20, row=1))
        for rate in (1048576, 2 ** 32 - 1):
            self.check(OutOfRange, q + 4, file(rate=rate, bits=7))
        for bits in (0, 1, 4, 7, 9, 12, 20, 40, 264, 65535):
            self.check(ReservedValue, q + 14, file(bits=bits, row=99))
        for row in (0, 2, 257, 65535):
            self.check(Disagreement, q + 12, file(row=row))
            self.check(Disagreement, q + 12, file(first=65534, row=row, depth=9))
        for bits, depths in ((8, (0, 1, 3, 9, 16, 264)), (16, (4, 8, 17, 24)), (24, (16, 25, 32)), (32, (24, 33, 40))):
            for depth in depths:
                self.check(OutOfRange, q + 18, file(first=65534, bits=bits, depth=depth, sign=[9] * 16))
        for at in range(16):
            wrong = list(SIGN)
            wrong[at] ^= 1
            self.check(ReservedValue, q + 24, file(first=65534, sign=wrong))

    def test_a_format_chunk_behind_other_chunks(self):
        other = chunk(b"LIST", [1, 2, 3])
        self.check(OutOfRange, 20 + 12 + 2, file_of(other, form(count=0), self.SAMPLES))
        self.check(InvalidForm, 16 + 12, file_of(other, form(cut=15), self.SAMPLES))

    def test_the_format_chunk_comes_before_the_data_chunk(self):
        self.check(ReservedValue, 20, file_of(form(first=9)))
        self.check(Truncated, 36, file_of(form()))

    def test_the_length_of_the_data(self):
        for count, bits, lengths in ((2, 8, (1, 3)), (1, 16, (1, 3)), (3, 24, (1, 3, 8, 10)), (8, 32, (1, 31, 33))):
            for first in (1, 65534):
                p = 12 + len(form(first, count, bits=bits))
                for length in lengths:
                    self.check(
                        Disagreement, p + 4, file_of(form(first, count, bits=bits), chunk(b"data", [255] * length))
                    )

    def test_bits_below_the_lowest_one(self):
        for bits in (8, 16, 24, 32):
            for depth in range(max(4, bits - 7), bits):
                c = bits // 8
                for at in range(4):
                    for bit in range(bits - depth):
                        samples = [little(3 << (bits - depth), c) for _ in range(4)]
                        samples[at][0] ^= 1 << bit
                        p = 12 + len(form(65534))
                        data = file_of(form(65534, 2, bits=bits, depth=depth), chunk(b"data", sum(samples, [])))
                        self.check(InvalidForm, p + 8 + at * c, data)
        # Two such samples: the first one counts.
        data = file_of(form(65534, bits=16, depth=12), chunk(b"data", [0, 1, 1, 2, 3, 4]))
        self.check(InvalidForm, 68 + 2, data)

    def test_struct_agrees_with_the_helper_of_these_tests(self):
        content = struct.pack("<HHIIHH", 1, 2, 44100, 176400, 4, 16)
        self.assertEqual(list(content), form(1, 2, 44100, 16)[8:])
