"""Chapter 06: coded residuals."""

from monochord.bits import BitReader, BitWriter
from monochord.errors import InvalidForm, OutOfRange, ReservedValue, Truncated
from monochord.residual import (
    legal_partition_order, partition_sizes, plan_fits, read_residuals, residual_bits, write_residuals,
)
from tests.support import Case, field, picker, rice, signed, to_bits, to_bytes, unary

MOST = 2 ** 31 - 1


def coded(plan, parts):
    """The bits of coded residuals, partition by partition."""
    method, partition_order, codings = plan
    width = (4, 5)[method]
    bits = field(method, 2) + field(partition_order, 4)
    assert len(codings) == len(parts)
    for (kind, number), part in zip(codings, parts):
        if kind == "raw":
            bits += "1" * width + field(number, 5)
            bits += "".join([signed(value, number) for value in part]) if number else ""
        else:
            bits += field(number, width)
            bits += "".join([rice(value, number) for value in part])
    return bits


def divided(residuals, order, partition_order):
    """The partitions of residuals."""
    whole = (len(residuals) + order) // 2 ** partition_order
    ends = [whole * (k + 1) - order for k in range(2 ** partition_order)]
    return [residuals[max(0, end - whole):end] for end in ends]


def any_part(pick, coding, count):
    """Residuals of a partition that its coding holds in few bits."""
    kind, number = coding
    if kind == "raw" and number == 0:
        return [0] * count
    if kind == "raw":
        low, high = -(2 ** (number - 1)), 2 ** (number - 1) - 1
        return [pick.choice((low, high, 0, -1, pick.randrange(low, high + 1))) for _ in range(count)]
    top = min(MOST, 2 ** number * 5)
    return [pick.choice((0, -1, top, -top, pick.randrange(-top, top + 1))) for _ in range(count)]


def every_coding(method):
    """All codings of a method."""
    return [("rice", k) for k in range((15, 31)[method])] + [("raw", width) for width in range(32)]


class PartitionsTest(Case):
    def expected(self, size, order, partition_order):
        """Point 06.2 in other words: a whole number of samples for each partition, and a residual in the first."""
        whole = size / 2 ** partition_order
        return whole == int(whole) and whole > order

    def test_legal_partition_orders(self):
        sizes = list(range(1, 140)) + [192, 255, 256, 576, 1024, 4096, 4608, 32767, 32768, 49152, 65534, 65535]
        for size in sizes:
            for order in range(33):
                for partition_order in range(16):
                    expected = self.expected(size, order, partition_order)
                    self.assertIs(expected, legal_partition_order(size, order, partition_order))

    def test_orders_that_are_not_less_than_the_size(self):
        for size in range(1, 33):
            for order in range(size, 33):
                for partition_order in range(16):
                    self.assertIs(False, legal_partition_order(size, order, partition_order))

    def test_the_highest_partition_orders(self):
        self.assertIs(True, legal_partition_order(32768, 0, 15))
        self.assertIs(False, legal_partition_order(32768, 1, 15))
        self.assertIs(True, legal_partition_order(49152, 2, 14))
        self.assertIs(False, legal_partition_order(49152, 3, 14))
        self.assertIs(False, legal_partition_order(65535, 0, 1))

    def test_partition_sizes(self):
        for size in (1, 2, 16, 33, 48, 64, 192, 4096, 65535, 32768):
            for order in range(33):
                for partition_order in range(16):
                    if self.expected(size, order, partition_order):
                        self.check_sizes(size, order, partition_order)

    def check_sizes(self, size, order, partition_order):
        """Check the sizes of partitions."""
        sizes = partition_sizes(size, order, partition_order)
        whole = size // 2 ** partition_order
        self.assertEqual(2 ** partition_order, len(sizes))
        self.assertEqual(whole - order, sizes[0])
        self.assertEqual({whole}, set(sizes[1:]) | {whole})
        self.assertEqual(size - order, sum(sizes))

    def test_sizes_are_a_new_list_each_time(self):
        for arguments in ((8, 2, 1), (8, 2, 0)):
            first = partition_sizes(*arguments)
            again = list(first)
            first[0] = 99
            first.append(1)
            self.assertEqual(again, partition_sizes(*arguments))


class FittingTest(Case):
    def fits(self, plan, residuals, order):
        """What plan_fits returns."""
        return self.unchanged(plan_fits, plan, residuals, order)

    def test_plans_that_fit(self):
        self.assertIs(True, self.fits((0, 0, (("rice", 3),)), [1, -1], 0))
        self.assertIs(True, self.fits((1, 1, (("rice", 30), ("raw", 31))), [1, -1, 5], 1))
        self.assertIs(True, self.fits((0, 2, (("raw", 1),) * 4), [0, -1, 0, -1], 0))

    def test_a_partition_too_many_or_too_few(self):
        for method in (0, 1):
            for coding in (("rice", 1), ("raw", 9)):
                for partition_order in range(4):
                    for many in range(11):
                        expected = many == 2 ** partition_order
                        plan = (method, partition_order, (coding,) * many)
                        self.assertIs(expected, self.fits(plan, [1] * 30, 2))

    def test_partition_orders_that_are_not_legal(self):
        for size in (1, 6, 8, 48):
            for order in range(size + 2):
                for partition_order in range(5):
                    plan = (0, partition_order, (("rice", 1),) * 2 ** partition_order)
                    whole = size / 2 ** partition_order
                    legal = whole == int(whole) and whole > order
                    if order <= size:
                        self.assertIs(legal, self.fits(plan, [0] * (size - order), order))

    def test_residuals_just_beyond_the_range_of_a_raw_width(self):
        for width in range(1, 32):
            plan = (1, 0, (("raw", width),))
            low, high = -(2 ** (width - 1)), 2 ** (width - 1) - 1
            self.assertIs(True, self.fits(plan, [low, high], 0))
            self.assertIs(False, self.fits(plan, [0, low - 1], 0))
            self.assertIs(False, self.fits(plan, [high + 1, 0], 0))

    def test_the_width_0_holds_nothing_but_0(self):
        plan = (0, 0, (("raw", 0),))
        self.assertIs(True, self.fits(plan, [0, 0, 0], 0))
        for value in (1, -1, 5):
            for at in range(3):
                residuals = [0, 0, 0]
                residuals[at] = value
                self.assertIs(False, self.fits(plan, residuals, 0))

    def test_each_partition_is_held_against_its_own_coding(self):
        codings = (("raw", 2), ("rice", 0), ("raw", 0), ("raw", 3))
        residuals = [1, -2, 9, 9, 0, 0, 3, -4]
        self.assertIs(True, self.fits((0, 2, codings), residuals, 0))
        self.assertIs(True, self.fits((0, 2, codings), residuals[1:], 1))
        for at, value in ((0, 2), (1, -3), (4, 1), (5, -1), (6, 4), (7, -5)):
            changed = list(residuals)
            changed[at] = value
            self.assertIs(False, self.fits((0, 2, codings), changed, 0))
        changed = list(residuals)
        changed[2:4] = [MOST, -MOST]
        self.assertIs(True, self.fits((0, 2, codings), changed, 0))


class WritingAndReadingTest(Case):
    def check(self, plan, residuals, order, lead=0):
        """Check residuals that are written behind some bits, and read back there."""
        self.assertIs(True, self.unchanged(plan_fits, plan, residuals, order))
        bits = coded(plan, divided(residuals, order, plan[1]))
        self.assertEqual(len(bits), self.unchanged(residual_bits, plan, residuals, order))
        writer = BitWriter()
        writer.write(lead, 0)
        before = (plan, list(residuals), order)
        self.assertIsNone(write_residuals(writer, plan, residuals, order))
        self.assertEqual(before, (plan, residuals, order))
        self.assertEqual(lead + len(bits), writer.bits_written())
        self.assertEqual(to_bytes("0" * lead + bits), writer.byte_list())
        for behind in ("", "1" * 16):
            data = to_bytes("0" * lead + bits + behind)
            reader = BitReader(data)
            reader.read(lead)
            result = read_residuals(reader, len(residuals) + order, order)
            self.assertEqual((plan, residuals), result)
            self.assertIs(tuple, result.__class__)
            self.assertEqual([list, tuple], [result[1].__class__, result[0][2].__class__])
            self.assertEqual(lead + len(bits), reader.bit_place())
            self.assertEqual(to_bytes("0" * lead + bits + behind), data)

    def test_each_coding_alone(self):
        pick = picker(15)
        for method in (0, 1):
            for coding in every_coding(method):
                for count in (1, 2, 9):
                    with self.subTest(method=method, coding=coding, count=count):
                        self.check((method, 0, (coding,)), any_part(pick, coding, count), 3, pick.randrange(8))

    def test_each_coding_among_others(self):
        pick = picker(16)
        for method in (0, 1):
            for partition_order in range(7):
                for whole in (1, 2, 5, 34):
                    for order in (0, 1, 4, 32):
                        if whole > order:
                            self.check_any_plan(pick, method, partition_order, whole, order)

    def check_any_plan(self, pick, method, partition_order, whole, order):
        """Check a plan whose codings are picked."""
        codings = tuple([pick.choice(every_coding(method)) for _ in range(2 ** partition_order)])
        residuals = []
        for coding in codings:
            residuals += any_part(pick, coding, whole)
        part = any_part(pick, codings[0], whole - order)
        self.check((method, partition_order, codings), part + residuals[whole:], order, pick.randrange(8))

    def test_the_highest_partition_order(self):
        pick = picker(17)
        codings = tuple([pick.choice(every_coding(1)[10:]) for _ in range(32768)])
        residuals = [any_part(pick, coding, 1)[0] for coding in codings]
        self.check((1, 15, codings), residuals, 0)

    def test_the_greatest_size(self):
        pick = picker(18)
        self.check((0, 0, (("rice", 3),)), [pick.randrange(-20, 20) for _ in range(65503)], 32)

    def test_residuals_at_both_ends_of_their_range(self):
        for k in (27, 28, 29, 30):
            self.check((1, 0, (("rice", k),)), [MOST, -MOST, 0], 1)
        self.check((0, 0, (("rice", 14),)), [MOST >> 4, -(MOST >> 4)], 1)
        self.check((1, 0, (("raw", 31),)), [2 ** 30 - 1, -(2 ** 30)], 1)

    def test_the_widths_of_the_field_of_a_coding(self):
        self.assertEqual(6 + 4 + 2 * 15, residual_bits((0, 0, (("rice", 14),)), [0, 0], 0))
        self.assertEqual(6 + 5 + 2 * 15, residual_bits((1, 0, (("rice", 14),)), [0, 0], 0))
        self.assertEqual(6 + 9, residual_bits((0, 0, (("raw", 0),)), [0, 0], 0))
        self.assertEqual(6 + 10 + 62, residual_bits((1, 0, (("raw", 31),)), [0, 0], 0))

    def test_what_was_read_is_written_as_the_same_bits(self):
        pick = picker(19)
        many = 0
        for _ in range(2000):
            size, order = pick.choice((1, 2, 4, 6, 8)), pick.choice((0, 0, 1, 3))
            method, partition_order = pick.choice((0, 1)), pick.choice((0, 0, 1, 2))
            start = field(method, 2) + field(partition_order, 4)
            bits = start + to_bits([pick.choice((0, 255, pick.randrange(256))) for _ in range(50)])
            many += self.check_written_again(bits, size, order)
        self.assertGreater(many, 500)

    def check_written_again(self, bits, size, order):
        """Check bits that are read and written again, if they can be read."""
        reader = BitReader(to_bytes(bits))
        try:
            plan, residuals = read_residuals(reader, size, order)
        except (InvalidForm, OutOfRange, Truncated):
            return 0
        writer = BitWriter()
        write_residuals(writer, plan, residuals, order)
        self.assertEqual(reader.bit_place(), writer.bits_written())
        self.assertEqual(to_bytes(bits[:reader.bit_place()]), writer.byte_list())
        self.assertEqual(size - order, len(residuals))
        return 1


class WrongInputsTest(Case):
    def check(self, kind, at, bits, size, order):
        """Check the error of these bits, behind any number of others; `at` is the bit at which the field begins."""
        for lead in (0, 1, 2, 3, 5, 7, 8, 13):
            data = to_bytes("0" * lead + bits)
            reader = BitReader(data)
            reader.read(lead)
            place = len(data) if kind is Truncated else (lead + at) // 8
            self.check_raises(kind, place, read_residuals, reader, size, order)

    def test_reserved_methods(self):
        for method in (2, 3):
            # Whatever follows: a partition order that is not legal, or nothing.
            for behind in ("", field(0, 4), field(15, 4), field(1, 4) + "0" * 100):
                self.check(ReservedValue, 0, field(method, 2) + behind, 5, 0)
                self.check(ReservedValue, 0, field(method, 2) + behind, 5, 9)

    def test_partition_orders_that_are_not_legal(self):
        cases = ((5, 0, 1), (1, 0, 1), (8, 0, 4), (8, 4, 1), (8, 2, 2), (8, 8, 0), (8, 9, 0), (1, 1, 0), (65535, 0, 15))
        for size, order, partition_order in cases:
            for method in (0, 1):
                for behind in ("", "1" * 60, "0" * 60):
                    bits = field(method, 2) + field(partition_order, 4) + behind
                    self.check(InvalidForm, 2, bits, size, order)

    def test_an_order_that_is_not_less_than_the_size(self):
        for size in (1, 2, 31, 32):
            for order in range(size, 33):
                for partition_order in range(16):
                    self.check(InvalidForm, 2, "00" + field(partition_order, 4) + "0" * 30, size, order)

    def test_integers_that_are_not_residuals(self):
        for value in (-(2 ** 31), 2 ** 31, 2 ** 31 + 1, -(2 ** 31) - 1, 2 ** 33):
            bits = "01" + "0000" + field(30, 5)
            self.check(OutOfRange, len(bits), bits + rice(value, 30), 1, 0)
            self.check(OutOfRange, len(bits), bits + rice(value, 30) + "0" * 50, 2, 0)
            bits += rice(-7, 30)
            self.check(OutOfRange, len(bits), bits + rice(value, 30), 3, 1)

    def test_integers_that_just_are_residuals(self):
        for value in (MOST, -MOST):
            bits = "01" + "0000" + field(30, 5) + rice(value, 30)
            self.assertEqual([value], read_residuals(BitReader(to_bytes(bits)), 1, 0)[1])

    def test_an_integer_that_is_no_residual_in_a_later_partition(self):
        bits = "01" + "0001" + field(30, 5) + rice(-7, 30) + field(30, 5)
        self.check(OutOfRange, len(bits), bits + rice(2 ** 31, 30), 2, 0)

    def test_a_code_that_is_cut_off_is_no_integer(self):
        bits = "01" + "0000" + field(30, 5) + unary(100) + "1" * 20
        for lead in (0, 3):
            data = to_bytes("0" * lead + bits)
            reader = BitReader(data)
            reader.read(lead)
            self.check_raises(Truncated, len(data), read_residuals, reader, 1, 0)

    def test_a_first_fault_in_front_of_another_one(self):
        wrong = rice(2 ** 31, 30)
        self.check(OutOfRange, 11, "01" + "0000" + field(30, 5) + wrong + wrong, 2, 0)
        bits = "01" + "0001" + field(30, 5) + wrong
        self.check(OutOfRange, 11, bits, 2, 0)

    def test_bits_that_end_inside_any_field(self):
        pick = picker(20)
        for method in (0, 1):
            for codings in ((("rice", 3), ("raw", 9)), (("raw", 0), ("rice", 0)), (("raw", 31), ("raw", 0))):
                residuals = any_part(pick, codings[0], 2) + any_part(pick, codings[1], 3)
                bits = coded((method, 1, codings), [residuals[:2], residuals[2:]])
                for lead in range(8):
                    self.check_cuts("0" * lead + bits, lead, 6, 1)

    def check_cuts(self, bits, lead, size, order):
        """Check that each whole byte of these bits is needed."""
        data = to_bytes(bits)
        for cut in range((lead + 7) // 8, len(data)):
            reader = BitReader(data[:cut])
            reader.read(lead)
            self.check_raises(Truncated, cut, read_residuals, reader, size, order)

    def test_no_data_at_all(self):
        self.check_raises(Truncated, 0, read_residuals, BitReader([]), 1, 0)
        self.check_raises(Truncated, 2, read_residuals, BitReader([0, 0], 2), 1, 1)

    def test_a_method_of_which_one_bit_is_there(self):
        for bit in ("0", "1"):
            reader = BitReader(to_bytes("0000000" + bit))
            reader.read(7)
            self.check_raises(Truncated, 1, read_residuals, reader, 1, 0)
