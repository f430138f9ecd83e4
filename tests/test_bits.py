"""Chapter 01: bits, fields, writers and readers."""

from monochord.bits import BitReader, BitWriter
from monochord.errors import InvalidForm, Truncated
from tests.support import Case, field, picker, signed, to_bits, to_bytes, unary

SOME_BITS = "1011001110001"


def written(lead):
    """A writer that holds the first bits of a pattern."""
    writer = BitWriter()
    for bit in SOME_BITS[:lead]:
        writer.write(1, int(bit))
    return writer


def reader_behind(lead, bits):
    """A reader that has read some bits in front of these."""
    reader = BitReader(to_bytes(SOME_BITS[:lead] + bits))
    for bit in SOME_BITS[:lead]:
        assert reader.read(1) == int(bit)
    return reader


class FieldsTest(Case):
    """Points 01.1 and 01.2: each kind of field, written and read behind any number of bits."""

    def check_field(self, lead, bits, write, read, value):
        """Check one field that is written by a function, and read by another one."""
        writer = written(lead)
        self.assertIsNone(write(writer))
        self.assertEqual(lead + len(bits), writer.bits_written())
        self.assertEqual(to_bytes(SOME_BITS[:lead] + bits), writer.byte_list())
        for behind in ("", "0", "1", "0" * 9, "1" * 9):
            reader = reader_behind(lead, bits + behind)
            self.assertEqual(value, read(reader))
            self.assertEqual(lead + len(bits), reader.bit_place())

    def check_fields(self, bits, write, read, value):
        """Check one field behind each number of bits."""
        for lead in range(len(SOME_BITS) + 1):
            with self.subTest(value=value, width=len(bits), lead=lead):
                self.check_field(lead, bits, write, read, value)

    def test_fields_of_every_width(self):
        for width in range(65):
            top = 2 ** width - 1
            for value in sorted({0, min(1, top), top // 2, top // 3, top}):
                self.check_fields(
                    field(value, width),
                    lambda writer: writer.write(width, value),
                    lambda reader: reader.read(width),
                    value,
                )

    def test_signed_fields_of_every_width(self):
        for width in range(1, 65):
            low, high = -(2 ** (width - 1)), 2 ** (width - 1) - 1
            for value in sorted({low, low // 3, -1, 0, min(1, high), high // 3, high}):
                self.check_fields(
                    signed(value, width),
                    lambda writer: writer.write_signed(width, value),
                    lambda reader: reader.read_signed(width),
                    value,
                )

    def test_unary_fields(self):
        for count in list(range(40)) + [55, 56, 57, 58, 63, 64, 65, 112, 113, 114, 1000, 4099]:
            self.check_fields(
                unary(count),
                lambda writer: writer.write_unary(count),
                lambda reader: reader.read_unary(),
                count,
            )

    def test_a_very_long_unary_field(self):
        writer = BitWriter()
        writer.write_unary(200001)
        writer.write(3, 5)
        self.assertEqual([0] * 25000 + [104], writer.byte_list()[:25001])
        reader = BitReader(writer.byte_list())
        self.assertEqual([200001, 5], [reader.read_unary(), reader.read(3)])

    def test_bytes(self):
        for count in (0, 1, 2, 7, 30):
            data = [(37 * k + 129) % 256 for k in range(count)]
            self.check_fields(
                to_bits(data),
                lambda writer: writer.append_bytes(data),
                lambda reader: reader.read_bytes(count),
                data,
            )

    def test_bits_are_numbered_from_the_most_significant_one(self):
        for number in range(24):
            writer = BitWriter()
            for k in range(24):
                writer.write(1, 1 if k == number else 0)
            data = [0, 0, 0]
            data[number // 8] = 2 ** (7 - number % 8)
            self.assertEqual(data, writer.byte_list())
            reader = BitReader(data)
            self.assertEqual([int(k == number) for k in range(24)], [reader.read(1) for _ in range(24)])

    def test_fields_without_gaps(self):
        pick = picker(1)
        for _ in range(100):
            self.check_many_fields([self.any_field(pick) for _ in range(pick.randrange(60))])

    def any_field(self, pick):
        """A field of any kind, as its kind, its width, its value and its bits."""
        kind = pick.choice(("plain", "signed", "unary"))
        if kind == "unary":
            count = pick.choice((0, 1, 2, 3, 8, 70, 300))
            return kind, 0, count, unary(count)
        if kind == "signed":
            width = pick.randrange(1, 65)
            value = pick.randrange(-(2 ** (width - 1)), 2 ** (width - 1))
            return kind, width, value, signed(value, width)
        width = pick.randrange(65)
        value = pick.randrange(2 ** width)
        return kind, width, value, field(value, width)

    def check_many_fields(self, fields):
        """Check that the bits of fields stand one behind the other, and are read so."""
        writer = BitWriter()
        bits = ""
        for kind, width, value, more in fields:
            if kind == "unary":
                writer.write_unary(value)
            elif kind == "signed":
                writer.write_signed(width, value)
            else:
                writer.write(width, value)
            bits += more
            self.assertEqual(len(bits), writer.bits_written())
        self.assertEqual(to_bytes(bits), writer.byte_list())
        reader = BitReader(to_bytes(bits))
        for kind, width, value, more in fields:
            if kind == "unary":
                self.assertEqual(value, reader.read_unary())
            elif kind == "signed":
                self.assertEqual(value, reader.read_signed(width))
            else:
                self.assertEqual(value, reader.read(width))
        self.assertEqual(len(bits), reader.bit_place())


class WriterTest(Case):
    def test_an_empty_writer(self):
        writer = BitWriter()
        self.assertEqual([], writer.byte_list())
        self.assertEqual(0, writer.bits_written())
        writer.pad()
        writer.write(0, 0)
        writer.append_bytes([])
        self.assertEqual([], writer.byte_list())
        self.assertEqual(0, writer.bits_written())

    def test_every_writing_method_returns_none(self):
        writer = BitWriter()
        self.assertIsNone(writer.write(3, 5))
        self.assertIsNone(writer.write_signed(3, -1))
        self.assertIsNone(writer.write_unary(5))
        self.assertIsNone(writer.append_bytes([1, 2]))
        self.assertIsNone(writer.pad())
        self.assertIsNone(writer.pad())
        self.assertIsNone(writer.append_bytes([1, 2]))

    def test_padding(self):
        for lead in range(len(SOME_BITS) + 1):
            writer = written(lead)
            writer.pad()
            self.assertEqual((lead + 7) // 8 * 8, writer.bits_written())
            self.assertEqual(to_bytes(SOME_BITS[:lead]), writer.byte_list())
            writer.write(8, 255)
            self.assertEqual(to_bytes(SOME_BITS[:lead]) + [255], writer.byte_list())

    def test_padding_at_a_boundary_adds_nothing(self):
        writer = BitWriter()
        writer.append_bytes([7])
        writer.pad()
        writer.pad()
        self.assertEqual(([7], 8), (writer.byte_list(), writer.bits_written()))

    def test_byte_list_in_between_and_twice(self):
        writer = BitWriter()
        bits = ""
        for bit in SOME_BITS * 3:
            self.assertEqual(to_bytes(bits), writer.byte_list())
            self.assertEqual(to_bytes(bits), writer.byte_list())
            self.assertEqual(len(bits), writer.bits_written())
            writer.write(1, int(bit))
            bits += bit
        self.assertEqual(to_bytes(bits), writer.byte_list())

    def test_a_returned_list_that_is_changed(self):
        for lead in (8, 13):
            writer = written(lead)
            first = writer.byte_list()
            first[0] = 0
            first.append(99)
            self.assertEqual(to_bytes(SOME_BITS[:lead]), writer.byte_list())
            writer.write(5, 9)
            self.assertEqual(to_bytes(SOME_BITS[:lead] + field(9, 5)), writer.byte_list())

    def test_appended_bytes_are_copied(self):
        for lead in (0, 3):
            data = [1, 2, 3]
            writer = written(lead)
            writer.append_bytes(data)
            self.assertEqual([1, 2, 3], data)
            data[0] = 99
            data.append(4)
            self.assertEqual(to_bytes(SOME_BITS[:lead] + to_bits([1, 2, 3])), writer.byte_list())
            writer.append_bytes([5])
            self.assertEqual([99, 2, 3, 4], data)

    def test_two_writers_side_by_side(self):
        one, two = BitWriter(), BitWriter()
        for k in range(30):
            one.write(5, k)
            two.write_unary(k % 3)
            two.append_bytes([k])
        self.assertEqual(to_bytes("".join(field(k, 5) for k in range(30))), one.byte_list())
        self.assertEqual(to_bytes("".join(unary(k % 3) + field(k, 8) for k in range(30))), two.byte_list())


class ReaderTest(Case):
    def test_a_reader_begins_at_any_byte(self):
        data = [0b10110011, 0b00011010, 0b11111111, 0]
        for at in range(len(data) + 1):
            reader = BitReader(data, at)
            self.assertEqual((at, 8 * at, True), (reader.byte_place(), reader.bit_place(), reader.aligned()))
            self.assertEqual(data[at:], reader.read_bytes(len(data) - at))
            self.assertEqual((4, 32, True), (reader.byte_place(), reader.bit_place(), reader.aligned()))

    def test_a_reader_begins_at_the_first_byte_by_default(self):
        self.assertEqual(0, BitReader([7]).bit_place())
        self.assertEqual(7, BitReader([7]).read(8))

    def test_a_field_behind_a_later_first_byte(self):
        reader = BitReader([255, 0b00101100], 1)
        self.assertEqual([2, 1, -4], [reader.read_unary(), reader.read(2), reader.read_signed(3)])
        self.assertEqual((16, 2), (reader.bit_place(), reader.byte_place()))

    def test_places(self):
        reader = BitReader([0, 0, 0])
        for place in range(25):
            self.assertEqual(place, reader.bit_place())
            self.assertEqual(place // 8, reader.byte_place())
            self.assertIs(place % 8 == 0, reader.aligned())
            if place < 24:
                reader.read(1)

    def test_since(self):
        data = [10, 11, 12, 13, 14]
        reader = BitReader(data, 1)
        self.assertEqual([], reader.since(1))
        self.assertEqual([10], reader.since(0))
        reader.read(16)
        self.assertEqual([11, 12], reader.since(1))
        self.assertEqual([12], reader.since(2))
        self.assertEqual([], reader.since(3))
        self.assertEqual(24, reader.bit_place())
        reader.read_bytes(2)
        self.assertEqual(data, reader.since(0))

    def test_returned_lists_are_new(self):
        data = [10, 11, 12]
        reader = BitReader(data)
        first = reader.read_bytes(2)
        first[0] = 99
        again = reader.since(0)
        again.append(99)
        again[1] = 99
        self.assertEqual([10, 11, 12], data)
        self.assertEqual([10, 11], reader.since(0))
        self.assertEqual(12, reader.read(8))

    def test_the_byte_list_stays_the_same(self):
        data = [1, 8, 3, 4, 5, 0, 0, 8]
        reader = BitReader(data)
        reader.read(3)
        reader.read_unary()
        reader.read_signed(5)
        reader.skip_padding()
        reader.read_bytes(2)
        reader.since(1)
        self.check_raises(Truncated, 8, reader.read, 64)
        self.assertEqual([1, 8, 3, 4, 5, 0, 0, 8], data)

    def test_two_readers_side_by_side(self):
        data = [0b10110011, 0b00011010]
        one, two = BitReader(data), BitReader(data, 1)
        self.assertEqual([5, 3], [one.read(3), two.read_unary()])
        self.assertEqual([1, 1], [one.read(1), two.read(1)])
        self.assertEqual((4, 13), (one.bit_place(), two.bit_place()))

    def test_skip_padding(self):
        for lead in range(len(SOME_BITS) + 1):
            for behind in ([], [255], [0]):
                reader = reader_behind(lead, "0" * (-lead % 8) + to_bits(behind))
                self.assertIsNone(reader.skip_padding())
                self.assertEqual((lead + 7) // 8 * 8, reader.bit_place())
                self.assertIsNone(reader.skip_padding())
                self.assertEqual(behind, reader.read_bytes(len(behind)))


class WrongInputsTest(Case):
    """Points 01.4 and 01.5: errors, with their places; the reader does not move."""

    def check_truncated(self, data, at, lead, read):
        """Check that a read behind some bits needs more bits than there are."""
        reader = BitReader(data, at)
        reader.read(lead)
        for _ in range(2):
            self.check_raises(Truncated, len(data), read, reader)
            self.assertEqual(8 * at + lead, reader.bit_place())
        left = 8 * (len(data) - at) - lead
        rest = to_bits(data)[8 * at + lead:]
        self.assertEqual(rest, "".join(str(reader.read(1)) for _ in range(left)))

    def test_fields_behind_the_end(self):
        for many in range(4):
            data = [0b10110011, 0b00011010, 0b11100101][:many]
            for at in range(many + 1):
                for lead in range(8 * (many - at) + 1):
                    left = 8 * (many - at) - lead
                    for width in (left + 1, left + 2, left + 8, 64):
                        self.check_truncated(data, at, lead, lambda reader: reader.read(width))
                        self.check_truncated(data, at, lead, lambda reader: reader.read_signed(width))

    def test_bytes_behind_the_end(self):
        for many in range(4):
            data = [0b10110011, 0b00011010, 0b11100101][:many]
            for at in range(many + 1):
                for lead in range(8 * (many - at) + 1):
                    left = 8 * (many - at) - lead
                    for count in (left // 8 + 1, left // 8 + 2, 1000):
                        self.check_truncated(data, at, lead, lambda reader: reader.read_bytes(count))

    def test_unary_fields_without_an_end(self):
        for many in range(12):
            for at in range(many + 1):
                for lead in range(min(8 * (many - at), 20) + 1):
                    self.check_truncated([0] * many, at, lead, lambda reader: reader.read_unary())

    def test_a_unary_field_behind_the_last_one(self):
        reader = BitReader([0, 0b00010000])
        self.assertEqual(11, reader.read_unary())
        self.check_raises(Truncated, 2, reader.read_unary)
        self.assertEqual(12, reader.bit_place())

    def test_fields_that_just_fit(self):
        data = [0b10110011, 0b00011010]
        for lead in range(17):
            reader = BitReader(data)
            reader.read(lead)
            reader.read(16 - lead)
            self.assertEqual(16, reader.bit_place())
        self.assertEqual(data, BitReader(data).read_bytes(2))

    def test_fields_without_bits_at_the_end(self):
        for data in ([], [1]):
            reader = BitReader(data, len(data))
            self.assertEqual((0, []), (reader.read(0), reader.read_bytes(0)))
            self.assertEqual(8 * len(data), reader.bit_place())

    def test_padding_with_a_bit_that_is_1(self):
        for whole in range(3):
            for lead in range(1, 8):
                for one in range(lead, 8):
                    data = [255] * whole + [2 ** (7 - one)] + [255]
                    reader = BitReader(data, whole)
                    reader.read(lead)
                    for _ in range(2):
                        self.check_raises(InvalidForm, whole, reader.skip_padding)
                        self.assertEqual(8 * whole + lead, reader.bit_place())
                    self.assertEqual(2 ** (7 - one), reader.read(8 - lead))

    def test_bits_in_front_of_the_padding_do_not_matter(self):
        for lead in range(1, 8):
            reader = BitReader([256 - 2 ** (8 - lead), 255])
            reader.read(lead)
            reader.skip_padding()
            self.assertEqual(8, reader.bit_place())
