"""Chapter 08: linear predictors."""

from fractions import Fraction
from math import floor

from monochord.fixed import fixed_residuals, fixed_samples
from monochord.linear import linear_residuals, linear_samples, precision
from tests.support import Case, picker

GREAT = 2 ** 90
LOW, HIGH = -16384, 16383
FIXED = ([1], [2, -1], [3, -3, 1], [4, -6, 4, -1])


def prediction(before, coefficients, shift):
    """Point 08.2, with exact fractions."""
    total = 0
    for at, coefficient in enumerate(coefficients):
        total += coefficient * before[-1 - at]
    return floor(Fraction(total, 2 ** shift))


def some_coefficients(pick):
    """Coefficients of every order: at both ends of their range, and between."""
    for order in range(1, 33):
        yield [LOW] * order
        yield [HIGH] * order
        yield [(LOW, HIGH)[at % 2] for at in range(order)]
        yield [pick.randrange(LOW, HIGH + 1) for _ in range(order)]
        yield [pick.randrange(-3, 4) for _ in range(order)]


class ResidualsTest(Case):
    def test_each_order_and_shift(self):
        pick = picker(25)
        for coefficients in some_coefficients(pick):
            for shift in (0, 1, 7, 14, 15, pick.randrange(16)):
                for top in (2, 2 ** 31, GREAT):
                    self.check(coefficients, shift, [pick.randrange(-top, top) for _ in range(40)])

    def check(self, coefficients, shift, samples):
        """Check residuals by point 08.2, and the samples that they determine."""
        order = len(coefficients)
        expected = []
        for at in range(order, len(samples)):
            expected.append(samples[at] - prediction(samples[:at], coefficients, shift))
        for kind in (list, tuple):
            given = kind(coefficients)
            self.assertEqual(expected, self.unchanged(linear_residuals, samples, given, shift))
            for more in ({}, {"limit": None}, {"limit": 2 * GREAT}):
                result = self.unchanged(linear_samples, samples[:order], expected, given, shift, **more)
                self.assertEqual(samples, result)

    def test_as_many_samples_as_coefficients(self):
        for coefficients in some_coefficients(picker(26)):
            samples = [7] * len(coefficients)
            self.assertEqual([], linear_residuals(samples, coefficients, 3))
            self.assertEqual(samples, linear_samples(samples, [], coefficients, 3))

    def test_the_first_coefficient_belongs_to_the_latest_sample(self):
        self.assertEqual([0 - 400], linear_residuals([5, 6, 4, 0], [100, 0, 0], 0))
        self.assertEqual([0 - 500], linear_residuals([5, 6, 4, 0], [0, 0, 100], 0))

    def test_sums_below_0_are_rounded_towards_minus_infinity(self):
        for shift in range(16):
            unit = 1 << shift
            for total in (-unit - 1, -unit, -unit + 1, -1, 0, 1, unit - 1, unit):
                expected = floor(Fraction(total, unit))
                self.assertEqual([-expected], linear_residuals([total, 0], [1], shift))
                self.assertEqual([total, expected], linear_samples([total], [0], [1], shift))

    def test_the_sum_is_rounded_and_not_its_terms(self):
        self.assertEqual([9], linear_residuals([1, 1, 10], [1, 1], 1))
        self.assertEqual([11], linear_residuals([1, 1, 10], [-1, -1], 1))

    def test_the_fixed_predictors(self):
        pick = picker(27)
        for coefficients in FIXED:
            order = len(coefficients)
            for length in range(order, 30):
                samples = [pick.randrange(-1000, 1000) for _ in range(length)]
                residuals = fixed_residuals(samples, order)
                self.assertEqual(residuals, linear_residuals(samples, coefficients, 0))
                self.assertEqual(samples, linear_samples(samples[:order], residuals, coefficients, 0))
                noise = [pick.randrange(-9, 9) for _ in residuals]
                expected = fixed_samples(samples[:order], noise, limit=5000)
                self.assertEqual(expected, linear_samples(samples[:order], noise, coefficients, 0, limit=5000))

    def test_results_are_new_lists(self):
        warm_up = [1, 2]
        samples = linear_samples(warm_up, [], [1, 1], 0)
        samples.append(3)
        self.assertEqual([1, 2], warm_up)


class LimitTest(Case):
    def test_both_sides_of_a_sample(self):
        for coefficients in ([1], [2, -1], [-3, 5, 7]):
            for limit in (1, 8, 128, 2 ** 31, GREAT):
                for last, within in ((-limit, True), (limit - 1, True), (limit, False), (-limit - 1, False)):
                    self.check(coefficients, limit, last, within)

    def check(self, coefficients, limit, last, within):
        """Check samples of which one is held against the limit."""
        order = len(coefficients)
        samples = [0, -1, 0, 0, -1, last, 0, -1]
        residuals = linear_residuals(samples, coefficients, 1)
        expected = samples if within else samples[:5]
        self.assertEqual(
            expected, self.unchanged(linear_samples, samples[:order], residuals, coefficients, 1, limit=limit)
        )

    def test_the_list_ends_before_the_first_sample_that_exceeds_the_limit(self):
        samples = [0, 5, 9, 100, 0, 0, -200]
        residuals = linear_residuals(samples, [3], 2)
        self.assertEqual([0, 5, 9], linear_samples([0], residuals, [3], 2, limit=10))
        self.assertEqual(samples[:6], linear_samples([0], residuals, [3], 2, limit=101))
        self.assertEqual(samples, linear_samples([0], residuals, [3], 2, limit=200))

    def test_the_warm_up_is_not_held_against_the_limit(self):
        self.assertEqual([1000, 0], linear_samples([1000], [-1000], [1], 0, limit=1))
        self.assertEqual([1000, -1000], linear_samples([1000, -1000], [], [1, 1], 0, limit=2))
        self.assertEqual([1000], linear_samples([1000], [0, -1000], [1], 0, limit=1))

    def test_a_limit_of_0_holds_no_sample(self):
        self.assertEqual([7], linear_samples([7], [-7, 0], [1], 0, limit=0))

    def test_samples_that_grow_fast_end_at_the_limit(self):
        self.assertEqual([1, 16383], linear_samples([1], [0] * 60000, [16383], 0, limit=2 ** 20))


class PrecisionTest(Case):
    def test_the_bounds_of_each_width(self):
        for width in range(1, 16):
            low, high = -(2 ** (width - 1)), 2 ** (width - 1) - 1
            for value in (low, high):
                least = 1 if value == 0 else width
                self.assertEqual(least, precision([value]))
                self.assertEqual(least, precision((value,)))
                for other in (0, -1):
                    self.assertEqual(least, self.unchanged(precision, [other, value]))
                    self.assertEqual(least, self.unchanged(precision, [value, other, 0]))
            if width < 15:
                self.assertEqual(width + 1, precision([low - 1]))
                self.assertEqual(width + 1, precision([high + 1]))

    def test_each_coefficient(self):
        for value in range(LOW, HIGH + 1):
            width = 1
            while not -(2 ** (width - 1)) <= value < 2 ** (width - 1):
                width += 1
            self.assertEqual(width, precision([value]))

    def test_many_coefficients(self):
        for coefficients in some_coefficients(picker(28)):
            self.assertEqual(max(precision([value]) for value in coefficients), precision(coefficients))
