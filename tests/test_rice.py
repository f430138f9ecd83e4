"""Chapter 05: folding and Rice codes."""

from monochord.bits import BitReader, BitWriter
from monochord.errors import Truncated
from monochord.rice import code_length, fold, read_code, unfold, write_code
from tests.support import Case, picker, rice, to_bytes

GREAT = (2 ** 31 - 1, 2 ** 31, 2 ** 63, 2 ** 64 + 1, 10 ** 30)


class FoldingTest(Case):
    def test_small_integers(self):
        self.assertEqual([0, 1, 2, 3, 4, 5, 6], [fold(n) for n in (0, -1, 1, -2, 2, -3, 3)])
        self.assertEqual([0, -1, 1, -2, 2, -3, 3], [unfold(u) for u in range(7)])

    def test_folding_by_its_formula(self):
        for n in list(range(300)) + list(GREAT):
            self.assertEqual(2 * n, fold(n))
            self.assertEqual(2 * n + 1, fold(-n - 1))

    def test_unfolding_is_the_inverse(self):
        for n in list(range(300)) + list(GREAT):
            for signed in (n, -n, n + 1, -n - 1):
                self.assertEqual(signed, unfold(fold(signed)))
            self.assertEqual(n, fold(unfold(n)))
            self.assertEqual(n + 1, fold(unfold(n + 1)))


def some_integers(k, pick):
    """Integers whose codes with this parameter are not too long."""
    top = 40 << k
    numbers = [0, 1, -1, 2, -2, top, -top, (1 << k) - 1, 1 << k, -(1 << k), -(1 << k) - 1]
    numbers += [(1 << k) // 2, (1 << k) // 2 - 1, -((1 << k) // 2), -((1 << k) // 2) - 1]
    return numbers + [pick.randrange(-top, top + 1) for _ in range(20)]


class CodesTest(Case):
    def test_each_parameter(self):
        pick = picker(12)
        for k in range(31):
            for n in some_integers(k, pick):
                for lead in (0, 1, 7):
                    with self.subTest(k=k, n=n, lead=lead):
                        self.check_code(k, n, lead)

    def check_code(self, k, n, lead):
        """Check the code of an integer behind some bits."""
        bits = rice(n, k)
        self.assertEqual(len(bits), code_length(k, n))
        writer = BitWriter()
        writer.write(lead, 0)
        self.assertIsNone(write_code(writer, k, n))
        self.assertEqual(lead + len(bits), writer.bits_written())
        self.assertEqual(to_bytes("0" * lead + bits), writer.byte_list())
        for behind in ("", "0" * 9, "1" * 9):
            reader = BitReader(to_bytes("0" * lead + bits + behind))
            reader.read(lead)
            self.assertEqual(n, read_code(reader, k))
            self.assertEqual(lead + len(bits), reader.bit_place())

    def test_codes_one_behind_the_other(self):
        pick = picker(13)
        codes = [(k, n) for k in range(31) for n in some_integers(k, pick)]
        pick.shuffle(codes)
        writer = BitWriter()
        bits = 0
        for k, n in codes:
            write_code(writer, k, n)
            bits += code_length(k, n)
            self.assertEqual(bits, writer.bits_written())
        reader = BitReader(writer.byte_list())
        self.assertEqual([n for _, n in codes], [read_code(reader, k) for k, _ in codes])
        self.assertEqual(bits, reader.bit_place())

    def test_code_lengths(self):
        self.assertEqual([1, 2, 3, 4, 5], [code_length(0, n) for n in (0, -1, 1, -2, 2)])
        self.assertEqual([31] * 4 + [32], [code_length(30, n) for n in (0, -1, 2 ** 29 - 1, -(2 ** 29), 2 ** 29)])
        self.assertEqual(4 * 10 ** 30 + 1, code_length(0, 2 * 10 ** 30))

    def test_great_integers(self):
        for n in (2 ** 31 - 1, -(2 ** 31) + 1, 2 ** 40, -(2 ** 40)):
            self.check_code(30, n, 3)


class WrongInputsTest(Case):
    def test_codes_that_are_cut_off(self):
        pick = picker(14)
        for k in range(31):
            for n in some_integers(k, pick)[:12]:
                bits = rice(n, k)
                data = to_bytes(bits)
                for cut in range((len(bits) + 7) // 8):
                    self.check_raises(Truncated, cut, read_code, BitReader(data[:cut]), k)

    def test_no_data_behind_the_position(self):
        for k in (0, 1, 30):
            self.check_raises(Truncated, 0, read_code, BitReader([]), k)
            self.check_raises(Truncated, 3, read_code, BitReader([1, 2, 255], 3), k)

    def test_a_second_field_that_lacks_one_bit(self):
        for k in range(1, 31):
            reader = BitReader([0] * 4 + [255])
            reader.read(40 - k)
            # The unary field takes the first of the bits that are left, or stands further behind.
            self.check_raises(Truncated, 5, read_code, reader, k)

    def test_zeros_to_the_end(self):
        self.check_raises(Truncated, 20, read_code, BitReader([0] * 20), 0)
