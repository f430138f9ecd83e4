"""Chapter 19: designing linear predictors."""

from fractions import Fraction
from math import floor

from monochord.fixed import fixed_samples
from monochord.linear import linear_residuals, linear_samples
from monochord.spectrum import autocorrelation, exact_predictors, predictors, quantize, weighted
from tests.support import Case, picker


def weighted_again(samples):
    """Point 19.2."""
    n = len(samples)
    return [samples[i] * (i + 1) * (n - i) for i in range(n)]


def correlation_again(values, most):
    """Point 19.2, one product after the other."""
    found = []
    for k in range(most + 1):
        total = 0
        for i in range(k, len(values)):
            total += values[i] * values[i - k]
        found.append(total)
    return found


def exact_again(r):
    """Point 19.3, with the same names; every division is checked to be exact."""
    if r[0] == 0:
        return []
    N, D = {}, {0: 1, 1: r[0]}
    found = []
    for i in range(1, len(r)):
        P = D[i - 1] * r[i] - sum(N[i - 1, j] * r[i - j] for j in range(1, i))
        N[i, i] = P
        for j in range(1, i):
            N[i, j], rest = divmod(D[i] * N[i - 1, j] - P * N[i - 1, i - j], D[i - 1])
            assert rest == 0
        D[i + 1], rest = divmod(D[i] * D[i] - P * P, D[i - 1])
        assert rest == 0
        found.append(([N[i, j] for j in range(1, i + 1)], D[i]))
    return found


def solved(r, order):
    """The predictor of an order as the solution of its equations, by elimination with fractions."""
    rows = [[Fraction(r[abs(i - j)]) for j in range(order)] + [Fraction(r[i + 1])] for i in range(order)]
    for at in range(order):
        pivot = next(k for k in range(at, order) if rows[k][at] != 0)
        rows[at], rows[pivot] = rows[pivot], rows[at]
        rows[at] = [value / rows[at][at] for value in rows[at]]
        for k in range(order):
            if k != at:
                rows[k] = [a - rows[k][at] * b for a, b in zip(rows[k], rows[at])]
    return [row[-1] for row in rows]


def nearest(value):
    """The integer that is nearest to a fraction, halves away from 0."""
    if value < 0:
        return -nearest(-value)
    return floor(value + Fraction(1, 2))


def quantize_again(numerators, denominator, precision):
    """Point 19.4, one shift after the other."""
    top = 2 ** (precision - 1) - 1
    for s in range(15, -1, -1):
        found = [nearest(Fraction(number * 2 ** s, denominator)) for number in numerators]
        if all(-top <= number <= top for number in found):
            return (found, s) if any(found) else None
    return None


def signals():
    """Lists of samples: noise, tones, steps, impulses, ends of depths."""
    pick = picker(191)
    found = [[5], [-3], [0], [0, 0, 0], [1, 1, 1], [0, 0, 7], [7, 0, 0], [1, -1] * 8, [2 ** 31 - 1, -(2 ** 31)] * 4]
    found.append([at * at - 40 * at for at in range(50)])
    # Each of these is predicted without a residual by a few coefficients.
    found += [[9] * 40, [7, -7] * 20, [5 * at - 30 for at in range(40)], [2 ** at for at in range(15)]]
    found.append([100 if at % 7 == 3 else 0 for at in range(40)])
    for size in (2, 3, 10, 40):
        for top in (1, 100, 2 ** 15, 2 ** 31):
            found.append([pick.randrange(-top, top) for _ in range(size)])
    walk = [0]
    for _ in range(60):
        walk.append(walk[-1] + pick.randrange(-9, 10))
    found.append(walk)
    return found


class WeightedTest(Case):
    def test_by_hand(self):
        self.assertEqual([3, 4, 3], weighted([1, 1, 1]))
        self.assertEqual([-7], weighted([-7]))
        self.assertEqual([4, -12, 18, 0], weighted([1, -2, 3, 0]))

    def test_against_a_second_computation(self):
        for samples in signals():
            self.assertEqual(weighted_again(samples), self.unchanged(weighted, samples))

    def test_a_new_list(self):
        samples = [0]
        weighted(samples).append(1)
        self.assertEqual([0], samples)


class AutocorrelationTest(Case):
    def test_by_hand(self):
        self.assertEqual([34, 24, 9], autocorrelation([3, 4, 3], 2))
        self.assertEqual([34], autocorrelation([3, 4, 3], 0))
        self.assertEqual([14, -8, 3], autocorrelation([1, -2, 3], 2))

    def test_against_a_second_computation(self):
        for values in signals():
            for most in (0, 1, 2, 5, 32):
                self.assertEqual(correlation_again(values, most), self.unchanged(autocorrelation, values, most))

    def test_more_orders_than_values(self):
        self.assertEqual([25] + [0] * 32, autocorrelation([5], 32))
        self.assertEqual([13, -6, 0, 0], autocorrelation([2, -3], 3))

    def test_values_that_are_all_zero(self):
        self.assertEqual([0] * 5, autocorrelation([0] * 9, 4))


class ExactPredictorsTest(Case):
    def test_by_hand(self):
        self.assertEqual([([24], 34), ([600, -270], 580)], exact_predictors([34, 24, 9]))

    def check(self, correlation):
        result = self.unchanged(exact_predictors, correlation)
        self.assertEqual(exact_again(correlation), result)
        for order, entry in enumerate(result, start=1):
            self.assertIs(tuple, entry.__class__)
            self.assertIs(list, entry[0].__class__)
            self.assertEqual(order, len(entry[0]))
            self.assertGreater(entry[1], 0)

    def test_against_a_second_computation(self):
        for samples in signals():
            for most in (0, 1, 2, 3, 8, 32):
                self.check(autocorrelation(samples, most))
                self.check(autocorrelation(weighted(samples), most))

    def test_they_solve_their_equations(self):
        for samples in signals():
            correlation = autocorrelation(weighted(samples), 6)
            for order, (numerators, denominator) in enumerate(exact_predictors(correlation), start=1):
                expected = solved(correlation, order)
                self.assertEqual(expected, [Fraction(number, denominator) for number in numerators])

    def test_samples_that_are_all_zero(self):
        self.assertEqual([], self.unchanged(exact_predictors, [0]))
        self.assertEqual([], self.unchanged(exact_predictors, [0] * 33))

    def test_one_sample(self):
        self.assertEqual([([0], 25), ([0, 0], 625)], exact_predictors([25, 0, 0]))

    def test_no_order(self):
        self.assertEqual([], exact_predictors([34]))


class QuantizeTest(Case):
    def check(self, numerators, denominator, precision):
        expected = quantize_again(numerators, denominator, precision)
        result = self.unchanged(quantize, numerators, denominator, precision)
        self.assertEqual(expected, result, (numerators, denominator, precision))
        if result is not None:
            self.assertIs(tuple, result.__class__)
            self.assertIs(list, result[0].__class__)

    def test_by_hand(self):
        self.assertEqual(([8, -4], 3), quantize([600, -270], 580, 5))
        self.assertEqual(([1], 0), quantize([1], 1, 2))
        self.assertEqual(([1024], 10), quantize([1], 1, 12))
        self.assertEqual(([-1023], 0), quantize([-1023], 1, 11))

    def test_halves_are_rounded_away_from_0(self):
        # With this precision the shift is 0, and the first coefficient fills it.
        for numerator, expected in ((1, 1), (-1, -1), (3, 2), (-3, -2), (5, 3), (-5, -3), (2, 1), (-2, -1), (0, 0)):
            self.assertEqual(([15, expected], 0), quantize([30, numerator], 2, 5))
        for numerator, expected in ((1, 0), (-1, 0), (2, 1), (-2, -1), (4, 1), (-4, -1), (5, 2), (-5, -2)):
            self.assertEqual(([15, expected], 0), quantize([45, numerator], 3, 5))

    def test_halves_decide_whether_a_coefficient_fits(self):
        # 1.5 becomes 2, which is too much for two bits, so there is no shift at which it fits.
        for sign in (1, -1):
            self.assertIsNone(quantize([3 * sign], 2, 2))
            self.assertEqual(([sign], 0), quantize([149 * sign], 100, 2))
            self.assertEqual(([sign], 0), quantize([sign], 1, 2))
            self.assertEqual(([sign], 1), quantize([74 * sign], 100, 2))
            self.assertEqual(([sign], 0), quantize([75 * sign], 100, 2))

    def test_both_ends_of_each_precision(self):
        for precision in range(2, 16):
            top = 2 ** (precision - 1) - 1
            for sign in (1, -1):
                self.assertEqual(([sign * top], 0), quantize([sign * top], 1, precision))
                self.assertIsNone(quantize([sign * (top + 1)], 1, precision))
                self.assertIsNone(quantize([0, sign * (2 * top + 1)], 2, precision))
                self.assertEqual(([0, sign * top], 0), quantize([0, sign * (2 * top)], 2, precision))

    def test_shifts_0_and_15(self):
        self.assertEqual(([1], 15), quantize([1], 2 ** 15, 5))
        self.assertEqual(([-15, 1], 15), quantize([-15, 1], 2 ** 15, 5))
        self.assertEqual(([8, -1], 14), quantize([16, -1], 2 ** 15, 5))
        self.assertEqual(([15], 0), quantize([15], 1, 5))

    def test_no_predictor_because_no_shift_fits(self):
        for precision in range(2, 16):
            self.assertIsNone(quantize([2 ** precision, 1], 1, precision))
            self.assertIsNone(quantize([1, -(2 ** precision)], 1, precision))

    def test_no_predictor_because_all_coefficients_are_0(self):
        self.assertIsNone(quantize([0], 1, 12))
        self.assertIsNone(quantize([0, 0, 0], 77, 12))
        # At the shift 15 these are just below, and just at, a half.
        self.assertIsNone(quantize([1, -1], 2 ** 16 + 1, 12))
        self.assertEqual(([1, -1], 15), quantize([1, -1], 2 ** 16, 12))

    def test_against_a_second_computation(self):
        pick = picker(192)
        for _ in range(1500):
            denominator = pick.randrange(1, 2 ** pick.randrange(1, 20))
            top = 2 ** pick.randrange(1, 24)
            numerators = [pick.randrange(-top, top) for _ in range(pick.randrange(1, 6))]
            self.check(numerators, denominator, pick.randrange(2, 16))

    def test_the_predictors_of_signals(self):
        for samples in signals():
            for numerators, denominator in exact_predictors(autocorrelation(weighted(samples), 10)):
                for precision in (2, 5, 12, 15):
                    self.check(numerators, denominator, precision)


class PredictorsTest(Case):
    def test_against_a_second_computation(self):
        for samples in signals():
            for most in (0, 1, 3, 32):
                exact = exact_again(correlation_again(weighted_again(samples), most))
                for precision in (2, 5, 12, 15):
                    expected = [quantize_again(*entry, precision) for entry in exact] or [None] * most
                    self.assertEqual(expected, self.unchanged(predictors, samples, most, precision))

    def test_samples_that_are_all_zero(self):
        for most in (0, 1, 32):
            self.assertEqual([None] * most, predictors([0] * 20, most, 12))

    def test_one_sample(self):
        self.assertEqual([None] * 5, predictors([9], 5, 12))

    def test_signals_that_are_predicted_exactly(self):
        # Each coefficient that is found describes a signal that it predicts without a residual.
        pick = picker(193)
        for _ in range(20):
            samples = [pick.randrange(-2000, 2000) for _ in range(64)]
            for entry in predictors(samples, 6, 12):
                coefficients, shift = entry
                order = len(coefficients)
                again = linear_samples(samples[:order], [0] * 58, coefficients, shift)
                self.assertEqual([0] * 58, linear_residuals(again, coefficients, shift))

    def test_a_straight_line(self):
        line = fixed_samples([1000, 1010], [0] * 200)
        coefficients, shift = predictors(line, 2, 15)[1]
        residuals = linear_residuals(line, coefficients, shift)
        self.assertLess(max(abs(residual) for residual in residuals), max(line) // 20)
