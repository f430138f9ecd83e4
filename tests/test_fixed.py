"""Chapter 07: fixed predictors."""

from monochord.fixed import fixed_residuals, fixed_samples
from tests.support import Case, picker

GREAT = 2 ** 90


def prediction(before, order):
    """Point 07.1: the prediction from the samples before, the latest one last."""
    if order == 0:
        return 0
    a, b, c, d = ([0, 0, 0, 0] + before)[:-5:-1]
    return (a, 2 * a - b, 3 * a - 3 * b + c, 4 * a - 6 * b + 4 * c - d)[order - 1]


def some_samples(pick):
    """Lists of samples of many lengths and sizes."""
    for top in (1, 2, 100, 2 ** 31, GREAT):
        for length in list(range(12)) + [50]:
            yield [pick.randrange(-top, top) for _ in range(length)]
    yield [GREAT, -GREAT] * 10
    yield [7] * 20
    yield list(range(-10, 30))


class ResidualsTest(Case):
    def test_each_order_by_the_formulas(self):
        for samples in some_samples(picker(21)):
            for order in range(min(4, len(samples)) + 1):
                expected = [samples[at] - prediction(samples[:at], order) for at in range(order, len(samples))]
                self.assertEqual(expected, self.unchanged(fixed_residuals, samples, order))

    def test_each_order_by_differences(self):
        for samples in some_samples(picker(22)):
            expected = list(samples)
            for order in range(min(4, len(samples)) + 1):
                self.assertEqual(expected, fixed_residuals(samples, order))
                expected = [expected[at] - expected[at - 1] for at in range(1, len(expected))]

    def test_as_many_samples_as_the_order(self):
        for order in range(5):
            self.assertEqual([], fixed_residuals([5, -9, 3, 8][:order], order))

    def test_one_sample_more_than_the_order(self):
        self.assertEqual([1000], fixed_residuals([1000], 0))
        self.assertEqual([999], fixed_residuals([1, 1000], 1))
        self.assertEqual([1000 - (2 * 10 - 1)], fixed_residuals([1, 10, 1000], 2))
        self.assertEqual([1000 - (3 * 30 - 3 * 10 + 1)], fixed_residuals([1, 10, 30, 1000], 3))
        self.assertEqual([1000 - (4 * 70 - 6 * 30 + 4 * 10 - 1)], fixed_residuals([1, 10, 30, 70, 1000], 4))

    def test_the_result_is_a_new_list(self):
        samples = [1, 2, 3]
        residuals = fixed_residuals(samples, 0)
        residuals[0] = 9
        self.assertEqual([1, 2, 3], samples)


class SamplesTest(Case):
    def test_warm_up_and_residuals_give_the_samples(self):
        for samples in some_samples(picker(23)):
            for order in range(min(4, len(samples)) + 1):
                residuals = fixed_residuals(samples, order)
                self.assertEqual(samples, self.unchanged(fixed_samples, samples[:order], residuals))
                self.assertEqual(samples, self.unchanged(fixed_samples, samples[:order], residuals, limit=None))
                self.assertEqual(samples, self.unchanged(fixed_samples, samples[:order], residuals, limit=2 * GREAT))

    def test_any_residuals(self):
        pick = picker(24)
        for order in range(5):
            for top in (3, GREAT):
                warm_up = [pick.randrange(-top, top) for _ in range(order)]
                residuals = [pick.randrange(-top, top) for _ in range(30)]
                samples = fixed_samples(warm_up, residuals)
                self.assertEqual(warm_up, samples[:order])
                self.assertEqual(residuals, fixed_residuals(samples, order))

    def test_no_residuals(self):
        for order in range(5):
            self.assertEqual([5, -9, 3, 8][:order], fixed_samples([5, -9, 3, 8][:order], []))
            self.assertEqual([5, -9, 3, 8][:order], fixed_samples([5, -9, 3, 8][:order], [], limit=1))

    def test_the_result_is_a_new_list(self):
        warm_up, residuals = [1, 2], []
        samples = fixed_samples(warm_up, residuals)
        samples.append(3)
        self.assertEqual(([1, 2], []), (warm_up, residuals))


class LimitTest(Case):
    def test_both_sides_of_a_sample(self):
        # Each list of samples ends with one that is at a bound of the limit or just beyond.
        for order in range(5):
            for limit in (1, 8, 128, 2 ** 31, GREAT):
                for last, within in ((-limit, True), (limit - 1, True), (limit, False), (-limit - 1, False)):
                    self.check(order, limit, last, within)

    def check(self, order, limit, last, within):
        """Check samples of which one is held against the limit."""
        samples = [0, -1, 0, 0, -1, last, 0, -1]
        residuals = fixed_residuals(samples, order)
        expected = samples if within else samples[:5]
        self.assertEqual(expected, self.unchanged(fixed_samples, samples[:order], residuals, limit=limit))

    def test_the_list_ends_before_the_first_sample_that_exceeds_the_limit(self):
        residuals = fixed_residuals([0, 5, 9, 100, 0, 0, -200], 1)
        self.assertEqual([0, 5, 9], fixed_samples([0], residuals, limit=10))
        self.assertEqual([0, 5, 9, 100, 0, 0], fixed_samples([0], residuals, limit=101))
        self.assertEqual([0, 5, 9], fixed_samples([0], residuals, limit=100))

    def test_the_warm_up_is_not_held_against_the_limit(self):
        self.assertEqual([1000, 0], fixed_samples([1000], [-1000], limit=1))
        self.assertEqual([1000, -1000, 3, 4], fixed_samples([1000, -1000, 3, 4], [], limit=2))
        self.assertEqual([1000], fixed_samples([1000], [0, -1000], limit=1))

    def test_a_limit_of_0_holds_no_sample(self):
        self.assertEqual([7], fixed_samples([7], [-7, 0], limit=0))
        self.assertEqual([], fixed_samples([], [0, 0], limit=0))

    def test_the_first_sample_behind_the_warm_up(self):
        self.assertEqual([], fixed_samples([], [8, 1], limit=8))
        self.assertEqual([-8, 1], fixed_samples([], [-8, 1], limit=8))
