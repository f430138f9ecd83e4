"""Chapter 09: subframes."""

import copy

from monochord.bits import BitReader, BitWriter
from monochord.errors import InvalidForm, OutOfRange, ReservedValue, Truncated
from monochord.fixed import fixed_residuals
from monochord.linear import linear_residuals, precision
from monochord.residual import write_residuals
from monochord.subframe import Subframe, read_subframe, subframe_bits, write_subframe
from tests.support import Case, field, picker, rice, signed, to_bits, to_bytes, unary


def residual_code(plan, residuals, order):
    """The bits of coded residuals."""
    writer = BitWriter()
    write_residuals(writer, plan, residuals, order)
    return to_bits(writer.byte_list())[:writer.bits_written()]


def header(code, wasted):
    """The bits of a header."""
    return "0" + field(code, 6) + ("1" + unary(wasted - 1) if wasted else "0")


def values(numbers, width):
    """The bits of signed numbers of one width."""
    return "".join([signed(number, width) for number in numbers])


def coded(depth, samples, subframe):
    """The bits of a subframe, by the table of point 09.3."""
    width = depth - subframe.wasted
    body = [sample // 2 ** subframe.wasted for sample in samples]
    order = subframe.order
    if subframe.kind == "constant":
        return header(0, subframe.wasted) + signed(body[0], width)
    if subframe.kind == "verbatim":
        return header(1, subframe.wasted) + values(body, width)
    if subframe.kind == "fixed":
        residual = residual_code(subframe.plan, fixed_residuals(body, order), order)
        return header(8 + order, subframe.wasted) + values(body[:order], width) + residual
    residuals = linear_residuals(body, subframe.coefficients, subframe.shift)
    return (
        header(31 + order, subframe.wasted) + values(body[:order], width)
        + field(subframe.precision - 1, 4) + signed(subframe.shift, 5)
        + values(subframe.coefficients, subframe.precision)
        + residual_code(subframe.plan, residuals, order)
    )


def parameter(residuals):
    """A Rice parameter that makes the codes of residuals short."""
    top = max([abs(residual) for residual in residuals] + [1])
    return min(30, top.bit_length())


def plan_for(residuals, order, partition_order=0):
    """A plan that fits residuals."""
    coding = ("rice", parameter(residuals))
    return (1, partition_order, (coding,) * 2 ** partition_order)


def any_samples(pick, depth, wasted, size):
    """Samples whose divided values are small, so that no residual of theirs leaves its range."""
    top = min(depth - wasted, 12)
    return [pick.randrange(-(2 ** (top - 1)), 2 ** (top - 1)) << wasted for _ in range(size)]


def fixed(samples, order, wasted=0, partition_order=0):
    """A fixed Subframe for samples."""
    residuals = fixed_residuals([sample >> wasted for sample in samples], order)
    return Subframe("fixed", order=order, plan=plan_for(residuals, order, partition_order), wasted=wasted)


def linear(samples, coefficients, shift, wasted=0, width=None):
    """A linear Subframe for samples."""
    order = len(coefficients)
    residuals = linear_residuals([sample >> wasted for sample in samples], coefficients, shift)
    return Subframe(
        "linear", order=order, precision=width or precision(coefficients), shift=shift,
        coefficients=tuple(coefficients), plan=plan_for(residuals, order), wasted=wasted,
    )


class SubframeTest(Case):
    def test_defaults(self):
        subframe = Subframe("constant")
        self.assertEqual(
            ("constant", 0, 0, 0, (), None, 0),
            (subframe.kind, subframe.order, subframe.precision, subframe.shift, subframe.coefficients,
             subframe.plan, subframe.wasted),
        )

    def test_attributes(self):
        plan = (0, 0, (("rice", 4),))
        subframe = Subframe("linear", order=2, precision=3, shift=1, coefficients=(3, -1), plan=plan, wasted=5)
        self.assertEqual(
            ("linear", 2, 3, 1, (3, -1), plan, 5),
            (subframe.kind, subframe.order, subframe.precision, subframe.shift, subframe.coefficients,
             subframe.plan, subframe.wasted),
        )

    def test_only_the_kind_is_passed_by_position(self):
        with self.assertRaises(TypeError):
            Subframe("fixed", 1)

    def test_equal_subframes(self):
        self.assertIs(True, Subframe("constant") == Subframe("constant"))
        self.assertIs(False, Subframe("constant") != Subframe("constant"))
        self.assertEqual(self.full(), self.full())

    def full(self, **changed):
        """A Subframe in which no attribute has its default value, with some of them changed."""
        attributes = {
            "kind": "linear", "order": 2, "precision": 3, "shift": 1, "coefficients": (3, -1),
            "plan": (0, 0, (("rice", 4),)), "wasted": 5,
        }
        attributes.update(changed)
        return Subframe(attributes.pop("kind"), **attributes)

    def test_subframes_with_one_attribute_changed(self):
        changes = (
            {"kind": "fixed"}, {"order": 1}, {"precision": 4}, {"shift": 0}, {"coefficients": (3, -2)},
            {"coefficients": (3,)}, {"plan": None}, {"plan": (0, 0, (("rice", 5),))}, {"plan": (1, 0, (("rice", 4),))},
            {"plan": (0, 0, (("raw", 4),))}, {"wasted": 0},
        )
        for change in changes:
            with self.subTest(change):
                self.assertIs(False, self.full() == self.full(**change))
                self.assertIs(True, self.full() != self.full(**change))

    def test_a_subframe_is_equal_to_no_value_of_another_class(self):
        class LookAlike:
            pass

        subframe = Subframe("constant")
        alike = LookAlike()
        alike.__dict__.update(subframe.__dict__)
        for other in (None, 0, "constant", (), ("constant", 0, 0, 0, (), None, 0), Subframe, alike):
            self.assertIs(False, subframe == other)
            self.assertIs(False, other == subframe)
            self.assertIs(True, subframe != other)


class WritingAndReadingTest(Case):
    def check(self, depth, samples, subframe, lead=0):
        """Check a subframe that is written behind some bits, and read back there."""
        bits = coded(depth, samples, subframe)
        self.assertEqual(len(bits), self.unchanged(subframe_bits, depth, samples, subframe))
        writer = BitWriter()
        writer.write(lead, 0)
        before = copy.deepcopy((samples, subframe))
        self.assertIsNone(write_subframe(writer, depth, samples, subframe))
        self.assertEqual(before, (samples, subframe))
        self.assertEqual(lead + len(bits), writer.bits_written())
        self.assertEqual(to_bytes("0" * lead + bits), writer.byte_list())
        for behind in ("", "1" * 16):
            data = to_bytes("0" * lead + bits + behind)
            reader = BitReader(data)
            reader.read(lead)
            result = read_subframe(reader, depth, len(samples))
            self.assertIs(tuple, result.__class__)
            self.assertEqual(samples, result[0])
            self.assertTrue(subframe == result[1])
            self.assertIs(tuple, result[1].coefficients.__class__)
            self.assertEqual(lead + len(bits), reader.bit_place())
            self.assertEqual(to_bytes("0" * lead + bits + behind), data)

    def wasted_of(self, depth):
        """Numbers of wasted bits at a depth."""
        return sorted({0, 1, 2, depth // 2, depth - 2, depth - 1})

    def test_constant_subframes(self):
        pick = picker(29)
        for depth in range(4, 34):
            for wasted in range(depth):
                top = 2 ** (depth - wasted - 1)
                for value in sorted({-top, -1, 0, top - 1}):
                    size = pick.choice((1, 2, 16, 100))
                    self.check(depth, [value << wasted] * size, Subframe("constant", wasted=wasted), pick.randrange(9))

    def test_verbatim_subframes(self):
        pick = picker(30)
        for depth in range(4, 34):
            for wasted in range(depth):
                top = 2 ** (depth - wasted - 1)
                samples = [pick.choice((-top, top - 1, -1, 0, pick.randrange(-top, top))) << wasted for _ in range(9)]
                for size in (1, 2, 9):
                    self.check(depth, samples[:size], Subframe("verbatim", wasted=wasted), pick.randrange(9))

    def test_fixed_subframes(self):
        pick = picker(31)
        for depth in range(4, 34):
            for wasted in self.wasted_of(depth):
                for order in range(5):
                    for size in (order + 1, order + 2, 40):
                        samples = any_samples(pick, depth, wasted, size)
                        self.check(depth, samples, fixed(samples, order, wasted), pick.randrange(9))

    def test_linear_subframes_of_every_order(self):
        pick = picker(32)
        for order in range(1, 33):
            for size in (order + 1, order + 2, 64):
                for depth in (4, 16, 24, 33):
                    width = pick.randrange(1, 16)
                    coefficients = [pick.randrange(-(2 ** (width - 1)), 2 ** (width - 1)) for _ in range(order)]
                    for wasted in (0, depth - 2):
                        samples = any_samples(pick, depth, wasted, size)
                        subframe = linear(samples, coefficients, pick.randrange(16), wasted, width)
                        self.check(depth, samples, subframe, pick.randrange(9))

    def test_linear_subframes_of_every_depth_and_number_of_wasted_bits(self):
        pick = picker(33)
        for depth in range(4, 34):
            for wasted in range(depth):
                samples = any_samples(pick, depth, wasted, 12)
                self.check(depth, samples, linear(samples, [3, -2], 1, wasted), pick.randrange(9))

    def test_every_shift_and_every_precision(self):
        pick = picker(34)
        samples = any_samples(pick, 12, 0, 20)
        for shift in range(16):
            self.check(12, samples, linear(samples, [5, -3], shift))
        for width in range(1, 16):
            low, high = -(2 ** (width - 1)), 2 ** (width - 1) - 1
            self.check(12, samples, linear(samples, [low, high, 0], 3, width=width))
            self.check(12, samples, linear(samples, [0, -1], 3, width=width))

    def test_the_order_of_a_linear_subframe_is_the_number_of_its_coefficients(self):
        samples = [12, -8, 4, 0, 20, -24]
        told = linear(samples, [3, -1], 1)
        untold = Subframe("linear", precision=3, shift=1, coefficients=(3, -1), plan=told.plan)
        writer = BitWriter()
        write_subframe(writer, 8, samples, untold)
        self.assertEqual(to_bytes(coded(8, samples, told)), writer.byte_list())
        self.assertEqual(subframe_bits(8, samples, told), subframe_bits(8, samples, untold))

    def test_partitions(self):
        pick = picker(35)
        for partition_order in range(5):
            for order in range(4):
                samples = any_samples(pick, 16, 0, 64)
                self.check(16, samples, fixed(samples, order, 0, partition_order), 3)

    def test_raw_residuals(self):
        samples = [9, 1, -7, 4, 4, 4]
        plan = (0, 1, (("raw", 5), ("raw", 9)))
        self.check(8, samples, Subframe("fixed", order=1, plan=plan), 5)

    def test_samples_at_both_ends_of_their_range(self):
        for depth in range(4, 32):
            samples = [-(2 ** (depth - 1)), 2 ** (depth - 1) - 1] * 4
            for wasted in (0, 1):
                if wasted:
                    samples = [sample // 2 * 2 for sample in samples]
                self.check(depth, samples, Subframe("verbatim", wasted=wasted))
                self.check(depth, samples, fixed(samples, 0, wasted))
                self.check(depth, samples, linear(samples, [1], 1, wasted))

    def test_the_greatest_size(self):
        pick = picker(36)
        samples = any_samples(pick, 6, 0, 65535)
        self.check(6, samples, fixed(samples, 2))
        self.check(6, samples, Subframe("verbatim"))
        self.check(6, [5] * 65535, Subframe("constant"))

    def test_behind_any_number_of_bits(self):
        samples = [12, -8, 4, 0, 20, -24]
        for lead in range(25):
            self.check(8, [4] * 6, Subframe("constant", wasted=2), lead)
            self.check(8, samples, Subframe("verbatim", wasted=2), lead)
            self.check(8, samples, fixed(samples, 2, 2), lead)
            self.check(8, samples, linear(samples, [3, -1], 1, 2), lead)

    def test_numbers_of_bits(self):
        self.assertEqual(8 + 8, subframe_bits(8, [5] * 100, Subframe("constant")))
        self.assertEqual(8 + 3 + 5, subframe_bits(8, [8] * 100, Subframe("constant", wasted=3)))
        self.assertEqual(8 + 3 + 4 * 5, subframe_bits(8, [8, 0, 16, -8], Subframe("verbatim", wasted=3)))
        plan = (0, 0, (("raw", 7),))
        self.assertEqual(
            8 + 2 * 8 + 6 + 9 + 2 * 7, subframe_bits(8, [1, 2, 3, 4], Subframe("fixed", order=2, plan=plan))
        )
        subframe = Subframe("linear", order=2, precision=12, shift=3, coefficients=(1, 2), plan=plan)
        self.assertEqual(8 + 2 * 8 + 4 + 5 + 2 * 12 + 6 + 9 + 2 * 7, subframe_bits(8, [1, 2, 3, 4], subframe))

    def test_subframes_one_behind_the_other(self):
        samples = [12, -8, 4, 0, 20, -24]
        many = [Subframe("verbatim"), fixed(samples, 3), linear(samples, [1], 0), Subframe("verbatim", wasted=2)]
        writer = BitWriter()
        for subframe in many:
            write_subframe(writer, 9, samples, subframe)
        reader = BitReader(writer.byte_list())
        for subframe in many:
            result, told = read_subframe(reader, 9, 6)
            self.assertEqual(samples, result)
            self.assertTrue(subframe == told)
        self.assertEqual(writer.bits_written(), reader.bit_place())


class WrongInputsTest(Case):
    """Points 09.4 and 09.5."""

    def check(self, kind, at, bits, depth, size):
        """Check the error of these bits, behind any number of others; `at` is the bit at which the field begins."""
        for lead in list(range(9)) + [13]:
            data = to_bytes("1" * lead + bits)
            reader = BitReader(data)
            reader.read(lead)
            self.check_raises(kind, (lead + at) // 8, read_subframe, reader, depth, size)

    def check_every_cut(self, bits, depth, size):
        """Check that each whole byte of these bits is needed."""
        for lead in range(8):
            data = to_bytes("1" * lead + bits)
            for cut in range((lead + 7) // 8, len(data)):
                reader = BitReader(data[:cut])
                reader.read(lead)
                self.check_raises(Truncated, cut, read_subframe, reader, depth, size)

    def test_a_first_bit_that_is_1(self):
        for behind in ("", "0" * 30, "1" * 30):
            self.check(InvalidForm, 0, "1" + behind, 8, 4)

    def test_reserved_codes(self):
        reserved = [code for code in range(64) if code not in (0, 1) and not 8 <= code <= 12 and code < 32]
        self.assertEqual(25, len(reserved))
        for code in reserved:
            for behind in ("", "0" * 30, "1" * 30):
                self.check(ReservedValue, 1, "0" + field(code, 6) + behind, 8, 4)

    def test_a_reserved_code_at_the_end_of_the_data(self):
        # The last bit of the code is the last one of the byte, so that the flag is missing.
        reader = BitReader(to_bytes("1" + "0" + field(2, 6)))
        reader.read(1)
        self.check_raises(ReservedValue, 0, read_subframe, reader, 8, 4)

    def test_wasted_bits_that_are_not_less_than_the_depth(self):
        for depth in range(4, 34):
            for wasted in (depth, depth + 1, 100, 1000):
                for code in (0, 1, 8, 12, 32, 63):
                    bits = "0" + field(code, 6) + "1" + unary(wasted - 1)
                    self.check(InvalidForm, 8, bits, depth, 4)

    def test_wasted_bits_that_are_just_less_than_the_depth(self):
        for depth in range(4, 34):
            data = to_bytes(header(0, depth - 1) + "1")
            samples, subframe = read_subframe(BitReader(data), depth, 2)
            self.assertEqual([-(2 ** (depth - 1))] * 2, samples)
            self.assertEqual(depth - 1, subframe.wasted)

    def test_the_unary_number_is_read_whole(self):
        for many in (0, 8, 40, 400):
            data = to_bytes("0" + field(1, 6) + "1" + "0" * many)
            self.check_raises(Truncated, len(data), read_subframe, BitReader(data), 8, 4)

    def test_a_precision_field_of_15(self):
        for order in (1, 2, 32):
            for wasted in (0, 3):
                lead = header(31 + order, wasted) + "0" * (8 - wasted) * order
                for behind in ("", "1" * 600, "0" * 600):
                    self.check(InvalidForm, len(lead), lead + "1111" + behind, 8, 40)

    def test_shifts_below_0(self):
        for order in (1, 2, 32):
            for width in (1, 15):
                for shift in (-1, -8, -16):
                    lead = header(31 + order, 0) + "0" * 8 * order + field(width - 1, 4)
                    for behind in ("", "1" * 600, "0" * 600):
                        self.check(InvalidForm, len(lead), lead + signed(shift, 5) + behind, 8, 40)

    def test_the_errors_of_the_residual(self):
        leads = [header(8 + order, 0) + "0" * 8 * order for order in range(5)]
        leads.append(header(33, 0) + "0" * 16 + field(0, 4) + signed(3, 5) + "00")
        for lead in leads:
            for method in (2, 3):
                self.check(ReservedValue, len(lead), lead + field(method, 2) + "1111", 8, 40)
            self.check(InvalidForm, len(lead) + 2, lead + "01" + field(15, 4), 8, 40)
            start = lead + "01" + "0000" + field(30, 5)
            self.check(OutOfRange, len(start), start + rice(2 ** 31, 30), 8, 40)

    def test_an_order_that_is_not_less_than_the_size(self):
        for order in range(1, 5):
            lead = header(8 + order, 0) + "0" * 8 * order
            for size in range(1, order + 1):
                for partition_order in (0, 1, 15):
                    self.check(InvalidForm, len(lead) + 2, lead + "00" + field(partition_order, 4), 8, size)
        for order in (1, 2, 31, 32):
            lead = header(31 + order, 0) + "0" * 8 * order + field(1, 4) + signed(0, 5) + "01" * order
            for size in sorted({1, order // 2 + 1, order}):
                self.check(InvalidForm, len(lead) + 2, lead + "01" + field(0, 4), 8, size)

    def test_an_order_that_is_not_less_than_the_size_behind_another_error(self):
        lead = header(33, 0) + "0" * 16
        self.check(InvalidForm, len(lead), lead + "1111" + "0" * 60, 8, 2)
        lead += field(1, 4)
        self.check(InvalidForm, len(lead), lead + signed(-1, 5) + "0" * 60, 8, 2)
        lead += signed(0, 5) + "0101"
        self.check(ReservedValue, len(lead), lead + "10" + "0" * 60, 8, 2)
        self.check_every_cut(lead + "00" + "0000", 8, 2)

    def test_the_first_error_of_several(self):
        self.check(InvalidForm, 0, "1" + field(2, 6) + "1" + unary(40), 8, 4)
        self.check(ReservedValue, 1, "0" + field(2, 6) + "1" + unary(40), 8, 4)
        lead = header(32, 0) + "0" * 8
        self.check(InvalidForm, len(lead), lead + "1111" + signed(-1, 5) + "1" * 60, 8, 4)
        lead += field(0, 4)
        self.check(InvalidForm, len(lead), lead + signed(-1, 5) + "0" + "11" + "1111", 8, 4)

    def test_samples_that_leave_their_range(self):
        for depth in range(4, 32):
            for wasted in (0, 1, depth - 1):
                width = depth - wasted
                top = 2 ** (width - 1)
                for value in (top, -top - 1):
                    self.check_sample(depth, wasted, value)

    def check_sample(self, depth, wasted, value):
        """Check a subframe with a value that does not fit its width, in the first residual and in a later one."""
        k = 30
        for first in ((), (0,), (0, -1, 0)):
            size = len(first) + 2
            residual = "01" + "0000" + field(k, 5)
            codes = "".join([rice(number, k) for number in list(first) + [value, 0]])
            self.check(OutOfRange, 0, header(8, wasted) + residual + codes, depth, size)
            body = list(first) + [value]
            codes = "".join([rice(number, k) for number in fixed_residuals([0] + body, 1) + [0]])
            warm_up = signed(0, depth - wasted)
            self.check(OutOfRange, 0, header(9, wasted) + warm_up + residual + codes, depth, size + 1)
            told = field(0, 4) + signed(15, 5) + "0"
            codes = "".join([rice(number, k) for number in body + [0]])
            self.check(OutOfRange, 0, header(32, wasted) + warm_up + told + residual + codes, depth, size + 1)

    def test_a_last_sample_that_leaves_its_range(self):
        residual = "01" + "0000" + field(30, 5)
        self.check(OutOfRange, 0, header(8, 0) + residual + rice(7, 30) + rice(8, 30), 4, 2)
        self.assertEqual(
            [7, -8], read_subframe(BitReader(to_bytes(header(8, 0) + residual + rice(7, 30) + rice(-8, 30))), 4, 2)[0]
        )

    def test_the_residual_is_read_whole_before_the_samples_are_computed(self):
        residual = "01" + "0000" + field(30, 5)
        bits = header(8, 0) + residual + rice(1000, 30)
        self.check(OutOfRange, len(bits), bits + rice(2 ** 31, 30), 8, 2)
        data = to_bytes(bits)
        self.check_raises(Truncated, len(data), read_subframe, BitReader(data), 8, 2)

    def test_no_sample_is_computed_behind_one_that_leaves_its_range(self):
        # Each further sample would have fourteen bits more than the one before it.
        told = field(14, 4) + signed(0, 5) + signed(16383, 15)
        residual = "00" + "0000" + "1111" + field(0, 5)
        bits = header(32, 0) + signed(1, 16) + told + residual
        self.check(OutOfRange, 0, bits, 16, 65535)

    def test_bits_that_end_inside_any_field(self):
        samples = [12, -8, 4, 0, 20, -24, 16, 16]
        many = [
            Subframe("verbatim"), Subframe("verbatim", wasted=2), fixed(samples, 0), fixed(samples, 4, 2, 0),
            fixed(samples, 1, 0, 2), linear(samples, [3, -1, 2], 1), linear(samples, [16383, -16384], 14, 2),
            Subframe("fixed", order=1, plan=(0, 0, (("raw", 9),))),
        ]
        for subframe in many:
            self.check_every_cut(coded(10, samples, subframe), 10, len(samples))
        self.check_every_cut(coded(33, [4] * 8, Subframe("constant", wasted=2)), 33, 8)

    def test_no_data_at_all(self):
        self.check_raises(Truncated, 0, read_subframe, BitReader([]), 8, 1)
        self.check_raises(Truncated, 2, read_subframe, BitReader([0, 0], 2), 8, 1)
