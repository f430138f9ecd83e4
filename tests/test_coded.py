"""Chapter 04: coded numbers."""

from monochord.bits import BitReader
from monochord.coded import read_number, write_number
from monochord.errors import InvalidForm, Truncated
from tests.support import Case, field, picker, to_bits, to_bytes

# Of each number of bytes: the first number that needs more, the leading bits of the first byte.
FORMS = (
    (1, 2 ** 7, "0"), (2, 2 ** 11, "110"), (3, 2 ** 16, "1110"), (4, 2 ** 21, "11110"),
    (5, 2 ** 26, "111110"), (6, 2 ** 31, "1111110"), (7, 2 ** 36, "11111110"),
)


def form(number, count):
    """The bytes of a number in a form of so many bytes."""
    lead = FORMS[count - 1][2]
    if count == 1:
        return [number]
    bits = field(number, 6 * (count - 1) + 8 - len(lead))
    data = [int((lead + bits)[:8], 2)]
    rest = (lead + bits)[8:]
    return data + [int("10" + rest[at:at + 6], 2) for at in range(0, len(rest), 6)]


def least_form(number):
    """The shortest bytes of a number."""
    for count, bound, _ in FORMS:
        if number < bound:
            return form(number, count)
    raise AssertionError(number)


def some_numbers():
    """Numbers on both sides of each bound, and many between."""
    pick = picker(11)
    numbers = [0, 1, 2 ** 36 - 1]
    for _, bound, _ in FORMS:
        numbers += [number for number in range(bound - 3, bound + 3) if number < 2 ** 36]
        numbers += [pick.randrange(bound) for _ in range(30)]
    for at in range(36):
        numbers += [1 << at, (1 << at) - 1, 2 ** 36 - 1 - (1 << at)]
    return numbers


class WritingTest(Case):
    def test_numbers_on_both_sides_of_each_bound(self):
        for number in some_numbers():
            with self.subTest(number):
                self.assertEqual(least_form(number), write_number(number))

    def test_as_utf_8(self):
        for number in list(range(0, 0x3000, 7)) + list(range(0xE000, 0x110000, 997)):
            self.assertEqual(list(chr(number).encode("utf-8")), write_number(number))

    def test_the_table(self):
        self.assertEqual([0], write_number(0))
        self.assertEqual([223, 191], write_number(2 ** 11 - 1))
        self.assertEqual([224, 160, 128], write_number(2 ** 11))
        self.assertEqual([239, 191, 191], write_number(2 ** 16 - 1))
        self.assertEqual([247, 191, 191, 191], write_number(2 ** 21 - 1))
        self.assertEqual([248, 136, 128, 128, 128], write_number(2 ** 21))
        self.assertEqual([252, 132, 128, 128, 128, 128], write_number(2 ** 26))
        self.assertEqual([253, 191, 191, 191, 191, 191], write_number(2 ** 31 - 1))
        self.assertEqual([254, 130, 128, 128, 128, 128, 128], write_number(2 ** 31))
        self.assertEqual([254, 191, 191, 191, 191, 191, 191], write_number(2 ** 36 - 1))


class ReadingTest(Case):
    def test_numbers_at_any_byte(self):
        for number in some_numbers():
            data = least_form(number)
            for lead in ([], [1], [255, 128, 7]):
                for behind in ([], [128], [0]):
                    reader = BitReader(lead + data + behind, len(lead))
                    self.assertEqual(number, read_number(reader))
                    self.assertEqual(8 * (len(lead) + len(data)), reader.bit_place())

    def test_numbers_inside_a_byte(self):
        for number in some_numbers():
            for lead in range(1, 8):
                reader = BitReader(to_bytes("1" * lead + to_bits(least_form(number))))
                reader.read(lead)
                self.assertEqual(number, read_number(reader))
                self.assertEqual(lead + 8 * len(least_form(number)), reader.bit_place())

    def test_numbers_one_behind_the_other(self):
        numbers = some_numbers()
        data = [byte for number in numbers for byte in write_number(number)]
        reader = BitReader(data)
        self.assertEqual(numbers, [read_number(reader) for _ in numbers])
        self.assertEqual(len(data), reader.byte_place())

    def test_the_byte_list_stays_the_same(self):
        data = [7, 194, 128, 9]
        self.assertEqual(128, read_number(BitReader(data, 1)))
        self.assertEqual([7, 194, 128, 9], data)


class WrongInputsTest(Case):
    def check(self, kind, place, data):
        """Check the error of reading these bytes, behind others and inside a byte, too; the reader does not move."""
        for lead in (0, 1, 5):
            reader = BitReader([0] * lead + data, lead)
            expected = lead + (len(data) if kind is Truncated else place)
            self.check_raises(kind, expected, read_number, reader)
            self.assertEqual(8 * lead, reader.bit_place())
            self.check_raises(kind, expected, read_number, reader)
            reader = BitReader(to_bytes("0" * (8 * lead + 3) + to_bits(data)))
            reader.read(3)
            reader.read_bytes(lead)
            # Behind the bytes there are five bits of padding, which are no byte.
            expected = lead + (len(data) + 1 if kind is Truncated else place)
            self.check_raises(kind, expected, read_number, reader)
            self.assertEqual(8 * lead + 3, reader.bit_place())

    def test_no_byte(self):
        self.check_raises(Truncated, 0, read_number, BitReader([]))
        self.check_raises(Truncated, 2, read_number, BitReader([1, 2], 2))

    def test_a_missing_byte(self):
        for count, bound, _ in FORMS[1:]:
            for number in (bound - 1, bound // 2):
                data = form(number, count)
                for cut in range(1, count):
                    self.check(Truncated, None, data[:cut])

    def test_first_bytes_that_are_not_allowed(self):
        for first in list(range(128, 192)) + [255]:
            self.check(InvalidForm, 0, [first])
            self.check(InvalidForm, 0, [first] + [128] * 7)
            self.check(InvalidForm, 0, [first, 0])

    def test_further_bytes_that_are_not_allowed(self):
        for count, bound, _ in FORMS[1:]:
            for at in range(1, count):
                for wrong in (0, 127, 192, 255):
                    data = form(bound - 1, count)
                    data[at] = wrong
                    self.check(InvalidForm, at, data)
                    self.check(InvalidForm, at, data[:at + 1])

    def test_a_wrong_further_byte_in_front_of_another_one(self):
        self.check(InvalidForm, 2, [240, 144, 127, 0])
        self.check(InvalidForm, 1, [254, 192, 192, 192])

    def test_forms_that_are_longer_than_necessary(self):
        for count, _, _ in FORMS[1:]:
            bound = FORMS[count - 2][1]
            for number in (0, 1, 127, bound // 2, bound - 1):
                self.check(InvalidForm, 0, form(number, count))
                self.check(InvalidForm, 0, form(number, count) + [128])
            reader = BitReader(form(bound, count))
            self.assertEqual(bound, read_number(reader))

    def test_a_longer_form_with_another_error(self):
        # The further bytes are read before the number is known.
        self.check(Truncated, None, [192])
        self.check(Truncated, None, [224, 128])
        self.check(InvalidForm, 1, [192, 0])
        self.check(InvalidForm, 2, [224, 128, 0])

    def test_every_pair_of_bytes(self):
        for first in range(256):
            for second in range(256):
                reader = BitReader([first, second])
                if first < 128:
                    self.assertEqual((first, 8), (read_number(reader), reader.bit_place()))
                elif first < 192 or first == 255:
                    self.check_raises(InvalidForm, 0, read_number, reader)
                elif second < 128 or second > 191:
                    self.check_raises(InvalidForm, 1, read_number, reader)
                elif first > 223:
                    self.check_raises(Truncated, 2, read_number, reader)
                elif first < 194:
                    self.check_raises(InvalidForm, 0, read_number, reader)
                else:
                    number = (first - 192) * 64 + second - 128
                    self.assertEqual((number, 16), (read_number(reader), reader.bit_place()))
