"""Chapter 10: the assignments of a stereo frame."""

from monochord.stereo import join, row_depths, split
from tests.support import Case, picker

ASSIGNMENTS = ("independent", "left-side", "side-right", "mid-side")


def rows_of(assignment, left, right):
    """The two rows by the table of point 10.1, with a mean that is rounded by counting down."""
    side = [a - b for a, b in zip(left, right)]
    mid = []
    for a, b in zip(left, right):
        double = a + b
        if abs(double) % 2 == 1:
            double -= 1
        mid.append(double // 2)
    return {
        "independent": (left, right), "left-side": (left, side), "side-right": (side, right), "mid-side": (mid, side),
    }[assignment]


def channels_of(assignment, first, second):
    """Left and right by the formulas of point 10.2."""
    left, right = [], []
    for a, b in zip(first, second):
        if assignment == "left-side":
            a, b = a, a - b
        elif assignment == "side-right":
            a, b = b + a, b
        elif assignment == "mid-side":
            double = 2 * a + (1 if b & 1 else 0)
            a, b = (double + b) // 2, (double - b) // 2
        left.append(a)
        right.append(b)
    return left, right


class SplittingTest(Case):
    def check(self, left, right):
        """Check all assignments of two channels, and that joining restores them."""
        for assignment in ASSIGNMENTS:
            with self.subTest(assignment, left=left, right=right):
                rows = self.unchanged(split, assignment, left, right)
                self.assertIs(tuple, rows.__class__)
                self.assertEqual(rows_of(assignment, left, right), rows)
                again = self.unchanged(join, assignment, *rows)
                self.assertIs(tuple, again.__class__)
                self.assertEqual((left, right), again)

    def test_one_pair_of_samples_by_hand(self):
        self.assertEqual(([5], [2]), split("independent", [5], [2]))
        self.assertEqual(([5], [3]), split("left-side", [5], [2]))
        self.assertEqual(([3], [2]), split("side-right", [5], [2]))
        self.assertEqual(([3], [3]), split("mid-side", [5], [2]))
        self.assertEqual(([-3], [-3]), split("mid-side", [-4], [-1]))
        self.assertEqual(([-1], [1]), split("mid-side", [0], [-1]))

    def test_small_samples_of_both_signs(self):
        small = range(-5, 6)
        self.check([a for a in small for _ in small], [b for _ in small for b in small])

    def test_both_ends_of_each_depth(self):
        for depth in range(4, 33):
            low, high = -(2 ** (depth - 1)), 2 ** (depth - 1) - 1
            ends = (low, low + 1, -1, 0, 1, high - 1, high)
            self.check([a for a in ends for _ in ends], [b for _ in ends for b in ends])

    def test_any_samples(self):
        pick = picker(101)
        for depth in (4, 8, 16, 24, 32):
            top = 2 ** (depth - 1)
            left, right = [[pick.randrange(-top, top) for _ in range(50)] for _ in range(2)]
            self.check(left, right)

    def test_no_sample(self):
        self.check([], [])

    def test_the_rows_are_new_lists(self):
        for assignment in ASSIGNMENTS:
            left, right = [1, 2], [3, 5]
            for row in split(assignment, left, right):
                row.append(7)
            self.assertEqual(([1, 2], [3, 5]), (left, right))
            for row in join(assignment, left, right):
                row.append(7)
            self.assertEqual(([1, 2], [3, 5]), (left, right))


class JoiningTest(Case):
    """Rows that no splitting returned."""

    def check(self, first, second):
        for assignment in ASSIGNMENTS:
            with self.subTest(assignment, first=first, second=second):
                result = self.unchanged(join, assignment, first, second)
                self.assertIs(tuple, result.__class__)
                self.assertEqual(channels_of(assignment, first, second), result)

    def test_by_hand(self):
        self.assertEqual(([7], [-2]), join("left-side", [7], [9]))
        self.assertEqual(([16], [9]), join("side-right", [7], [9]))
        self.assertEqual(([12], [3]), join("mid-side", [7], [9]))
        self.assertEqual(([11], [3]), join("mid-side", [7], [8]))
        self.assertEqual(([3], [12]), join("mid-side", [7], [-9]))
        self.assertEqual(([-7], [-6]), join("mid-side", [-7], [-1]))

    def test_rows_whose_channels_exceed_the_depth(self):
        for depth in range(4, 33):
            low, high = -(2 ** depth), 2 ** depth - 1
            ends = (low, low + 1, -2, -1, 0, 1, 2, high - 1, high)
            self.check([a for a in ends for _ in ends], [b for _ in ends for b in ends])

    def test_any_rows(self):
        pick = picker(102)
        for _ in range(20):
            first, second = [[pick.randrange(-100, 100) for _ in range(20)] for _ in range(2)]
            self.check(first, second)


class RowDepthsTest(Case):
    def test_two_rows(self):
        for depth in range(4, 33):
            self.assertEqual([depth, depth], row_depths("independent", depth, 2))
            self.assertEqual([depth, depth + 1], row_depths("left-side", depth, 2))
            self.assertEqual([depth + 1, depth], row_depths("side-right", depth, 2))
            self.assertEqual([depth, depth + 1], row_depths("mid-side", depth, 2))

    def test_any_number_of_independent_rows(self):
        for count in range(1, 9):
            for depth in (4, 16, 32):
                self.assertEqual([depth] * count, row_depths("independent", depth, count))

    def test_a_new_list_each_time(self):
        for assignment in ASSIGNMENTS:
            row_depths(assignment, 8, 2).append(1)
            self.assertEqual(2, len(row_depths(assignment, 8, 2)))
