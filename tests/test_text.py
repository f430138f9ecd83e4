"""Points 15.1 and 15.2: texts and UTF-8."""

from monochord.errors import InvalidText
from monochord.text import points_of, read_utf8, write_utf8
from tests.support import Case, picker, to_bytes

EDGES = (0, 1, 61, 127, 128, 129, 2047, 2048, 2049, 55295, 57344, 65535, 65536, 65537, 1114110, 1114111)

FIRST = {1: "0", 2: "110", 3: "1110", 4: "11110"}


def form(value, count):
    """The bytes of a value in so many bytes, also if it fits fewer of them or is no code point."""
    if count == 1:
        return [value]
    width = 7 - count
    bits = bin(value)[2:].zfill(width + 6 * (count - 1))
    data = FIRST[count] + bits[:width]
    for at in range(width, len(bits), 6):
        data += "10" + bits[at:at + 6]
    assert len(data) == 8 * count
    return to_bytes(data)


def valid_points():
    """Code points around all bounds, and some in between."""
    pick = picker(151)
    points = list(EDGES) + [pick.randrange(1114112) for _ in range(500)]
    return [point for point in points if not 55296 <= point <= 57343]


class WritingTest(Case):
    def test_points_by_hand(self):
        self.assertEqual([0], write_utf8([0]))
        self.assertEqual([127], write_utf8([127]))
        self.assertEqual([194, 128], write_utf8([128]))
        self.assertEqual([223, 191], write_utf8([2047]))
        self.assertEqual([224, 160, 128], write_utf8([2048]))
        self.assertEqual([237, 159, 191], write_utf8([55295]))
        self.assertEqual([238, 128, 128], write_utf8([57344]))
        self.assertEqual([239, 191, 191], write_utf8([65535]))
        self.assertEqual([240, 144, 128, 128], write_utf8([65536]))
        self.assertEqual([244, 143, 191, 191], write_utf8([1114111]))

    def test_points_against_another_writing(self):
        for point in valid_points():
            self.assertEqual(list(chr(point).encode("utf-8")), self.unchanged(write_utf8, [point]))

    def test_texts(self):
        self.assertEqual([], write_utf8([]))
        self.assertEqual([65, 195, 169, 226, 130, 172, 240, 159, 142, 181], write_utf8([65, 233, 8364, 127925]))
        points = valid_points()
        expected = list("".join([chr(point) for point in points]).encode("utf-8"))
        self.assertEqual(expected, self.unchanged(write_utf8, points))


class ReadingTest(Case):
    def check(self, text, before, behind):
        """Check that a text is read between other bytes."""
        data = write_utf8(text)
        whole = before + data + behind
        self.assertEqual(text, self.unchanged(read_utf8, whole, len(before), len(before) + len(data)))

    def test_each_point_alone(self):
        for point in valid_points():
            self.check([point], [], [])

    def test_texts_at_any_part_of_a_byte_list(self):
        points = valid_points()
        for before in ([], [195], [128, 255], write_utf8([65536])[:3]):
            for behind in ([], [128], [169, 128, 128], [255, 65]):
                self.check(points, before, behind)
                self.check([], before, behind)
                self.check([65], before, behind)

    def test_a_new_list(self):
        data = [65, 66]
        read_utf8(data, 0, 2).append(7)
        self.assertEqual([65, 66], data)


class InvalidSequencesTest(Case):
    def check(self, sequence, may_go_on=True):
        """Check that a sequence is invalid, wherever it stands."""
        for before in ([], [65], [195, 169], [240, 144, 128, 128, 66]):
            for outside in ([], [255, 195]):
                data = outside + before + sequence
                place = len(outside) + len(before)
                for behind in ([], [65], [128, 128, 128], [65, 255]):
                    self.check_raises(InvalidText, place, self.reader, data + behind, len(outside), len(data))
                if may_go_on:
                    data = data + [65, 255, 66]
                    self.check_raises(InvalidText, place, self.reader, data, len(outside), len(data))

    def reader(self, data, start, stop):
        return self.unchanged(read_utf8, data, start, stop)

    def test_wrong_first_bytes(self):
        for first in list(range(128, 192)) + list(range(248, 256)):
            for further in ([], [128], [128] * 3, [128] * 5):
                self.check([first] + further)

    def test_sequences_that_are_cut_off(self):
        # Behind the index at which the reading stops, the byte list goes on with what is missing.
        for point in (128, 2047, 2048, 65535, 65536, 1114111):
            data = write_utf8([point])
            for count in range(1, len(data)):
                self.check(data[:count], False)
                self.check_raises(InvalidText, 0, read_utf8, data, 0, count)
                self.check_raises(InvalidText, 2, read_utf8, [65, 65] + data, 2, 2 + count)

    def test_wrong_further_bytes(self):
        for point in (128, 233, 2048, 8364, 65536, 1114111):
            data = write_utf8([point])
            for at in range(1, len(data)):
                for wrong in (0, 65, 127, 192, 195, 255):
                    self.check(data[:at] + [wrong] + data[at + 1:])

    def test_values_that_are_no_code_points(self):
        for value in (55296, 55297, 56319, 56320, 57342, 57343):
            self.check(form(value, 3))
        for value in (1114112, 1114113, 0x13FFFF, 0x140000, 0x1FFFFF):
            self.check(form(value, 4))

    def test_longer_forms_than_necessary(self):
        for value in (0, 1, 61, 65, 127):
            for count in (2, 3, 4):
                self.check(form(value, count))
        for value in (128, 233, 2047):
            for count in (3, 4):
                self.check(form(value, count))
        for value in (2048, 55295, 55296, 57343, 57344, 65535):
            self.check(form(value, 4))

    def test_the_first_of_several_invalid_sequences(self):
        for first in ([128], [195, 65], [237, 160, 128], [192, 128], [255]):
            for second in ([129], [224, 65, 65], [248]):
                data = [65, 195, 169] + first + [66] + second
                self.check_raises(InvalidText, 3, read_utf8, data, 0, len(data))
                self.check_raises(InvalidText, 4 + len(first), read_utf8, data, 3 + len(first), len(data))

    def test_every_sequence_of_two_bytes(self):
        for first in range(256):
            for second in range(256):
                try:
                    expected = [ord(sign) for sign in bytes([first, second]).decode("utf-8")]
                except UnicodeDecodeError:
                    # The place is the second byte if the first one stands for itself.
                    self.check_raises(InvalidText, 1 if first < 128 else 0, read_utf8, [first, second], 0, 2)
                else:
                    self.assertEqual(expected, read_utf8([first, second], 0, 2))

    def test_any_sequences_of_four_bytes(self):
        pick = picker(152)
        for _ in range(4000):
            data = [pick.choice((240, 244, 245, 224, 237, 239, 194))] + [pick.randrange(112, 208) for _ in range(3)]
            self.compare(data)

    def compare(self, data):
        """Compare the reading of some bytes with the one of Python, which finds the same first fault."""
        try:
            expected = [ord(sign) for sign in bytes(data).decode("utf-8")]
        except UnicodeDecodeError as error:
            self.check_raises(InvalidText, error.start, read_utf8, data, 0, len(data))
        else:
            self.assertEqual(expected, read_utf8(data, 0, len(data)))


class PointsTest(Case):
    def test_all_ascii_characters(self):
        self.assertEqual(list(range(128)), points_of("".join([chr(number) for number in range(128)])))
        for number in range(128):
            self.assertEqual([number], points_of(chr(number)))

    def test_the_empty_string(self):
        self.assertEqual([], points_of(""))

    def test_words(self):
        self.assertEqual([84, 73, 84, 76, 69], points_of("TITLE"))
