"""Chapter 20: choosing residual codings."""

from monochord.bits import BitWriter
from monochord.partition import best_coding, best_entry, raw_width, rice_bits
from monochord.residual import plan_fits, residual_bits, write_residuals
from tests.support import Case, picker, rice

TOP = 2 ** 31 - 1


def width_of(residuals):
    """The raw width, by the inequality of point 20.2."""
    if all(value == 0 for value in residuals):
        return 0
    width = 1
    while not all(-(2 ** (width - 1)) <= value < 2 ** (width - 1) for value in residuals):
        width += 1
    return width


def cost(coding, residuals, method):
    """The bits of a partition with a coding, by point 20.3."""
    kind, number = coding
    if kind == "raw":
        return 4 + method + 5 + number * len(residuals)
    folded = [2 * value if value >= 0 else -2 * value - 1 for value in residuals]
    return 4 + method + sum(1 + number + (value >> number) for value in folded)


def entry_of(residuals, method):
    """The best coding, with all codings tried one by one."""
    codings = [("rice", k) for k in range(31 if method else 15)]
    if width_of(residuals) <= 31:
        codings.append(("raw", width_of(residuals)))
    # The smallest key wins, and of equal ones the first.
    best = min(codings, key=lambda coding: cost(coding, residuals, method))
    return best, cost(best, residuals, method)


def plans(residuals, order, highest, wide):
    """All plans with the best codings, in the order in which ties are decided, with their bits."""
    size = len(residuals) + order
    found = []
    for method in (0, 1) if wide else (0,):
        for p in range(highest + 1):
            if size % 2 ** p == 0 and size // 2 ** p > order:
                start, codings, bits = 0, [], 6
                for at in range(2 ** p):
                    stop = (at + 1) * (size // 2 ** p) - order
                    coding, more = entry_of(residuals[start:stop], method)
                    codings.append(coding)
                    bits += more
                    start = stop
                found.append(((method, p, tuple(codings)), bits))
    return found


def any_residuals(pick, many):
    """Residuals of any size, some lists with parts of very different sizes."""
    top = 2 ** pick.randrange(1, 32)
    residuals = [pick.randrange(-top + 1, top) for _ in range(many)]
    for _ in range(pick.randrange(3)):
        start = pick.randrange(many + 1)
        small = pick.choice((1, 2, 5, 300))
        for at in range(start, min(many, start + many // 3 + 1)):
            residuals[at] = pick.randrange(-small + 1, small)
    return residuals


class RiceBitsTest(Case):
    def test_by_hand(self):
        self.assertEqual(0, rice_bits([], 4))
        self.assertEqual(1, rice_bits([0], 0))
        self.assertEqual(1 + 3 + 2, rice_bits([0, 1, -1], 0))
        self.assertEqual(5 + 6, rice_bits([0, 8], 4))
        self.assertEqual(31, rice_bits([0], 30))

    def test_the_numbers_of_bits_of_the_codes(self):
        pick = picker(201)
        for k in range(31):
            residuals = [pick.randrange(-(2 ** (k + 6)), 2 ** (k + 6)) for _ in range(20)]
            expected = sum(len(rice(value, k)) for value in residuals)
            self.assertEqual(expected, self.unchanged(rice_bits, residuals, k))

    def test_both_ends_of_the_residuals(self):
        for k in range(31):
            for value in (TOP, -TOP):
                folded = 2 * TOP if value > 0 else 2 * TOP - 1
                self.assertEqual(1 + k + (folded >> k), rice_bits([value], k))


class RawWidthTest(Case):
    def test_the_bounds_of_each_width(self):
        for width in range(1, 41):
            low, high = -(2 ** (width - 1)), 2 ** (width - 1) - 1
            self.assertEqual(width, self.unchanged(raw_width, [low]))
            self.assertEqual(width, raw_width([0, low, 0]))
            self.assertEqual(width + 1, raw_width([low - 1]))
            self.assertEqual(width + 1, raw_width([high + 1]))
            if width > 1:
                self.assertEqual(width, raw_width([high]))
                self.assertEqual(width, raw_width([0, high, -1]))
            self.assertEqual(width + 1, raw_width([low, high + 1]))

    def test_no_value_other_than_0(self):
        self.assertEqual(0, raw_width([]))
        self.assertEqual(0, raw_width([0]))
        self.assertEqual(0, raw_width([0] * 50))
        self.assertEqual(1, raw_width([0] * 50 + [-1]))

    def test_widths_above_31(self):
        self.assertEqual(32, raw_width([TOP]))
        self.assertEqual(32, raw_width([-TOP]))
        self.assertEqual(31, raw_width([2 ** 30 - 1]))
        self.assertEqual(31, raw_width([-(2 ** 30)]))

    def test_against_the_inequality(self):
        pick = picker(202)
        for _ in range(300):
            residuals = any_residuals(pick, pick.randrange(1, 9))
            self.assertEqual(width_of(residuals), raw_width(residuals))


class BestEntryTest(Case):
    def check(self, residuals):
        for method in (0, 1):
            result = self.unchanged(best_entry, residuals, method)
            self.assertEqual(entry_of(residuals, method), result, (residuals, method))
            self.assertIs(tuple, result.__class__)
            self.assertIs(tuple, result[0].__class__)

    def test_no_residual_and_one(self):
        self.assertEqual((("rice", 0), 4), best_entry([], 0))
        self.assertEqual((("rice", 0), 5), best_entry([], 1))
        self.check([])
        for value in list(range(-70, 70)) + [TOP, -TOP, 2 ** 30, -(2 ** 30), 2 ** 30 - 1]:
            self.check([value])

    def test_many_residuals(self):
        pick = picker(203)
        for _ in range(300):
            self.check(any_residuals(pick, pick.randrange(1, 40)))

    def test_ties_between_parameters(self):
        # 1 + k + (2 >> k) is 3 for both 0 and 1; the smaller parameter counts.
        self.assertEqual((("rice", 0), 4 + 3), best_entry([1], 0))
        self.assertEqual(cost(("rice", 0), [1], 0), cost(("rice", 1), [1], 0))
        self.assertEqual((("rice", 1), 4 + 8), best_entry([2, 2], 0))
        self.assertEqual(cost(("rice", 1), [2, 2], 0), cost(("rice", 2), [2, 2], 0))

    def test_ties_between_a_rice_coding_and_a_raw_one(self):
        # Both have nine bits.
        self.assertEqual((("rice", 0), 9), best_entry([0] * 5, 0))
        self.assertEqual(9, cost(("raw", 0), [0] * 5, 0))
        self.assertEqual((("raw", 0), 9), best_entry([0] * 6, 0))
        self.assertEqual((("rice", 0), 10), best_entry([0] * 5, 1))
        self.assertEqual((("raw", 0), 10), best_entry([0] * 6, 1))
        for value in range(-300, 300):
            for many in range(1, 8):
                self.check([value] * many)

    def test_raw_codings(self):
        self.assertEqual((("raw", 8), 9 + 8 * 20), best_entry([127, -128] * 10, 0))
        self.assertEqual((("raw", 8), 10 + 8 * 20), best_entry([127, -128] * 10, 1))

    def test_parameters_above_14_only_for_method_1(self):
        # Values without a raw coding, whose width is 32.
        for many in (1, 3, 20):
            residuals = [TOP, -TOP, TOP - 5][:many] * (many // 3 or 1)
            self.assertEqual(("rice", 14), best_entry(residuals, 0)[0])
            self.assertEqual(("rice", 30), best_entry(residuals, 1)[0])
            self.check(residuals)

    def test_a_raw_coding_needs_a_width_of_31_at_most(self):
        self.assertEqual((("raw", 31), 9 + 31 * 3), best_entry([2 ** 30 - 1] * 3, 0))
        self.assertEqual("rice", best_entry([2 ** 30] * 3, 0)[0][0])
        self.assertEqual("rice", best_entry([2 ** 30] * 3, 1)[0][0])
        self.assertEqual((("raw", 31), 9 + 31 * 3), best_entry([-(2 ** 30)] * 3, 0))
        self.assertEqual("rice", best_entry([-(2 ** 30) - 1] * 3, 0)[0][0])


class BestCodingTest(Case):
    def check(self, residuals, order, highest, wide):
        """Check the best plan against all plans, and its bits against those that are written."""
        tried = plans(residuals, order, highest, wide)
        expected = min(tried, key=lambda entry: entry[1])
        result = self.unchanged(best_coding, residuals, order, highest=highest, wide=wide)
        self.assertEqual(expected, result, (residuals, order, highest, wide))
        plan, bits = result
        self.assertEqual((tuple, tuple, tuple), (result.__class__, plan.__class__, plan[2].__class__))
        self.assertTrue(plan_fits(plan, residuals, order))
        self.assertEqual(bits, residual_bits(plan, residuals, order))
        if bits < 10 ** 6:
            writer = BitWriter()
            write_residuals(writer, plan, residuals, order)
            self.assertEqual(bits, writer.bits_written())

    def test_by_hand(self):
        self.assertEqual(((0, 0, (("rice", 0),)), 14), best_coding([0, 1], 0, highest=1, wide=False))
        plan, bits = best_coding([0] * 16 + [100, -100] * 8, 0, highest=4, wide=False)
        self.assertEqual((0, 1, (("raw", 0), ("raw", 8))), plan)
        self.assertEqual(6 + 9 + 9 + 8 * 16, bits)

    def test_any_residuals(self):
        pick = picker(204)
        for _ in range(150):
            order = pick.choice((0, 0, 1, 2, 4, 8, 32))
            size = pick.choice((8, 16, 24, 32, 48, 64, 96, 33, 35, 128))
            if size > order:
                residuals = any_residuals(pick, size - order)
                self.check(residuals, order, pick.randrange(16), pick.choice((False, True)))

    def test_every_order(self):
        pick = picker(205)
        for order in range(33):
            for size in (order + 1, 2 * order + 2, 4 * order + 4, 64):
                if size > order:
                    residuals = any_residuals(pick, size - order)
                    self.check(residuals, order, 4, False)
                    self.check(residuals, order, 4, True)

    def test_every_highest_partition_order(self):
        pick = picker(206)
        residuals = [pick.randrange(-(2 ** (at // 16)), 2 ** (at // 16) + 1) for at in range(256)]
        found = []
        for highest in range(16):
            for wide in (False, True):
                self.check(residuals, 0, highest, wide)
            found.append(best_coding(residuals, 0, highest=highest, wide=False)[0][1])
        self.assertEqual([0, 1, 2, 3], found[:4])

    def test_the_highest_partition_order_of_all(self):
        # Each pair of residuals has a size of its own, which pays only if there is much between them.
        residuals = [0, 0] * 32768
        for at in range(0, 65536, 4096):
            residuals[at] = TOP
        plan, bits = best_coding(residuals, 0, highest=15, wide=False)
        self.assertTrue(plan_fits(plan, residuals, 0))
        self.assertEqual(bits, residual_bits(plan, residuals, 0))
        for highest in (0, 5, 11, 12):
            self.assertGreaterEqual(best_coding(residuals, 0, highest=highest, wide=False)[1], bits)

    def test_sizes_that_are_not_divided_by_2(self):
        pick = picker(207)
        for size in (1, 3, 5, 7, 9, 15, 33, 65, 127):
            residuals = any_residuals(pick, size)
            for highest in (0, 1, 4, 15):
                self.check(residuals, 0, highest, True)
                self.assertEqual(0, best_coding(residuals, 0, highest=highest, wide=True)[0][1])
        for size in (2, 6, 10, 12, 20, 24, 40):
            self.check(any_residuals(pick, size), 0, 15, True)
            self.check(any_residuals(pick, size - 1), 1, 15, True)

    def test_a_partition_order_that_is_not_legal_for_the_order(self):
        # Four partitions of two samples would leave the first one with less than nothing.
        residuals = [1000] + [0] * 4
        self.check(residuals, 3, 4, False)
        self.assertLessEqual(best_coding(residuals, 3, highest=4, wide=False)[0][1], 1)
        self.check([5], 7, 4, True)
        self.assertEqual(0, best_coding([5], 7, highest=4, wide=True)[0][1])

    def test_ties_between_methods(self):
        # Method 1 needs one bit more for each partition, so it is equal only if it saves as many.
        pick = picker(208)
        equal = 0
        for _ in range(400):
            k = pick.choice((14, 15, 16))
            many = pick.choice((2, 4, 8))
            residuals = [pick.randrange(-(2 ** k), 2 ** k) for _ in range(many)]
            residuals[0] = pick.choice((residuals[0], TOP - pick.randrange(1000)))
            self.check(residuals, 0, 3, True)
            tried = plans(residuals, 0, 3, True)
            least = min(bits for _, bits in tried)
            methods = {plan[0] for plan, bits in tried if bits == least}
            equal += methods == {0, 1}
        self.assertGreater(equal, 0)

    def test_method_1_where_it_is_allowed(self):
        residuals = [TOP, -TOP] * 8
        self.assertEqual((1, 0, (("rice", 30),)), best_coding(residuals, 0, highest=4, wide=True)[0])
        self.assertEqual((0, 0, (("rice", 14),)), best_coding(residuals, 0, highest=4, wide=False)[0])

    def test_ties_between_partition_orders(self):
        pick = picker(209)
        equal = 0
        for _ in range(300):
            residuals = [pick.choice((0, 0, 0, 1, -1, 3, -9)) for _ in range(16)]
            self.check(residuals, 0, 4, False)
            tried = plans(residuals, 0, 4, False)
            least = min(bits for _, bits in tried)
            equal += len([bits for _, bits in tried if bits == least]) > 1
        self.assertGreater(equal, 0)

    def test_only_zeros(self):
        for size in (1, 2, 5, 6, 16, 64):
            self.check([0] * size, 0, 4, True)
            self.assertEqual(0, best_coding([0] * size, 0, highest=4, wide=True)[0][1])
