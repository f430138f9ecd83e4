"""Chapter 14: the seek table."""

from monochord.errors import InvalidForm, OutOfOrder
from monochord.seektable import is_ordered, nearest_point, points_for, read_seektable, write_seektable
from tests.support import Case, field, picker, to_bytes

MOST = 2 ** 64 - 1


def body_of(*points):
    """The body of some points, by point 14.2; a placeholder may be given with its offset and count."""
    bits = ""
    for point in points:
        sample, offset, count = (MOST, 0, 0) if point is None else point
        bits += field(sample, 64) + field(offset, 64) + field(count, 16)
    return to_bytes(bits)


def frames_of(counts):
    """A frame list of frames with these numbers of samples."""
    frames, sample, offset = [], 0, 0
    for count in counts:
        frames.append((sample, offset, count))
        sample, offset = sample + count, offset + 10 + count % 7
    return frames


LISTS = (
    [], [None], [None, None], [(0, 0, 0)], [(0, 0, 16), None], [(0, 0, 16), (16, 40, 16), None, None],
    [(MOST - 1, MOST, 65535)], [(0, MOST, 65535), (1, 0, 0), (MOST - 1, 5, 1), None],
    [(5, 9, 4096), (6, 3, 1), (2 ** 32, 2 ** 32, 256)],
)


class WritingAndReadingTest(Case):
    def check(self, points):
        """Check that points are written by the table, and read back between other bytes."""
        body = body_of(*points)
        self.assertEqual(body, self.unchanged(write_seektable, points))
        for before in ([], [0], [255] * 19):
            for behind in ([], [0], [255] * 18):
                start = len(before)
                data = before + body + behind
                again = self.unchanged(read_seektable, data, start, start + len(body))
                self.assertEqual(points, again)
                self.assertEqual([point.__class__ for point in points], [point.__class__ for point in again])

    def test_a_point_by_hand(self):
        self.assertEqual(
            [0, 0, 0, 0, 0, 0, 1, 2, 0, 0, 0, 0, 0, 1, 0, 3, 16, 5], write_seektable([(258, 65539, 4101)])
        )
        self.assertEqual([255] * 8 + [0] * 10, write_seektable([None]))

    def test_lists(self):
        for points in LISTS:
            self.check(points)

    def test_any_points(self):
        pick = picker(141)
        for many in (1, 2, 3, 50):
            samples = sorted({pick.randrange(2 ** pick.randrange(8, 64)) for _ in range(many)})
            points = [(sample, pick.randrange(2 ** 64), pick.randrange(65536)) for sample in samples]
            self.check(points)
            self.check(points + [None] * 3)

    def test_placeholders_with_an_offset_and_a_count(self):
        for offset, count in ((0, 0), (1, 0), (0, 1), (MOST, 65535), (77, 4096)):
            self.assertEqual([None], read_seektable(body_of((MOST, offset, count)), 0, 18))
            data = body_of((3, 4, 5), (MOST, offset, count), (MOST, 1, 2))
            self.assertEqual([(3, 4, 5), None, None], read_seektable(data, 0, 54))


class OrderTest(Case):
    def check(self, expected, points):
        self.assertIs(expected, self.unchanged(is_ordered, points))

    def test_ordered_lists(self):
        for points in LISTS:
            self.check(True, points)

    def test_equal_falling_and_rising_samples(self):
        self.check(True, [(1, 9, 9), (2, 0, 0), (3, 0, 1)])
        self.check(False, [(1, 0, 5), (1, 1, 5)])
        self.check(False, [(1, 0, 5), (0, 1, 5)])
        self.check(False, [(1, 0, 5), (3, 0, 5), (2, 0, 5)])
        self.check(False, [(1, 0, 5), (3, 0, 5), (3, 0, 5), None])
        self.check(False, [(0, 0, 5), (0, 0, 5), (1, 0, 5)])
        self.check(True, [(MOST - 2, 0, 0), (MOST - 1, 0, 0)])

    def test_points_behind_placeholders(self):
        self.check(False, [None, (1, 0, 5)])
        self.check(False, [(1, 0, 5), None, (2, 0, 5)])
        self.check(False, [None, (1, 0, 5), None])
        self.check(True, [(1, 0, 5), None, None])


class WrongInputsTest(Case):
    """The table of point 14.4."""

    def check(self, kind, at, body):
        """Check the error of a body, also in the middle of a byte list."""
        for before in ([], [0], [255] * 18):
            for behind in ([], [0], [0] * 18):
                start = len(before)
                data = before + body + behind
                self.check_raises(kind, start + at, self.reader, data, start, start + len(body))

    def reader(self, data, start, stop):
        return self.unchanged(read_seektable, data, start, stop)

    def test_lengths(self):
        whole = body_of((1, 2, 3), (4, 5, 6))
        for length in range(1, 36):
            if length != 18:
                self.check(InvalidForm, 0, whole[:length])

    def test_samples_that_do_not_ascend(self):
        self.check(OutOfOrder, 18, body_of((1, 0, 5), (1, 1, 5)))
        self.check(OutOfOrder, 18, body_of((1, 0, 5), (0, 1, 5)))
        self.check(OutOfOrder, 36, body_of((1, 0, 5), (3, 0, 5), (2, 0, 5), (9, 0, 0)))
        self.check(OutOfOrder, 36, body_of((1, 0, 5), (3, 0, 5), (3, 0, 5), None))
        self.check(OutOfOrder, 18, body_of((MOST - 1, 0, 5), (MOST - 1, 0, 5)))

    def test_points_behind_placeholders(self):
        self.check(OutOfOrder, 18, body_of(None, (1, 0, 5)))
        self.check(OutOfOrder, 36, body_of((1, 0, 5), None, (2, 0, 5)))
        self.check(OutOfOrder, 36, body_of((3, 0, 5), (MOST, 8, 8), (2, 0, 5)))
        self.check(OutOfOrder, 54, body_of(None, None, None, (0, 0, 0), None, (1, 0, 0)))

    def test_the_first_of_several_points(self):
        self.check(OutOfOrder, 18, body_of((5, 0, 0), (4, 0, 0), (3, 0, 0), None, (2, 0, 0)))

    def test_the_length_comes_first(self):
        self.check(InvalidForm, 0, body_of((5, 0, 0), (4, 0, 0)) + [0])
        self.check(InvalidForm, 0, body_of(None, (4, 0, 0), (5, 0, 0))[:-1])


class PointsForTest(Case):
    def check(self, frames, every):
        """Check the points against a search for multiples."""
        expected = []
        for sample, offset, count in frames:
            if any(number % every == 0 for number in range(sample, sample + count)):
                expected.append((sample, offset, count))
        result = self.unchanged(points_for, frames, every)
        self.assertEqual(expected, result)
        self.assertIs(list, result.__class__)

    def test_by_hand(self):
        frames = [(0, 0, 10), (10, 30, 10), (20, 55, 10), (30, 90, 4)]
        self.assertEqual(frames, points_for(frames, 1))
        self.assertEqual(frames, points_for(frames, 10))
        self.assertEqual([(0, 0, 10), (10, 30, 10), (30, 90, 4)], points_for(frames, 11 + 4))
        self.assertEqual([(0, 0, 10), (20, 55, 10)], points_for(frames, 20))
        self.assertEqual([(0, 0, 10), (10, 30, 10)], points_for(frames, 19))
        self.assertEqual([(0, 0, 10), (30, 90, 4)], points_for(frames, 33))
        self.assertEqual([(0, 0, 10)], points_for(frames, 34))
        self.assertEqual([(0, 0, 10)], points_for(frames, 10 ** 9))

    def test_frames_of_one_size(self):
        for size in (1, 2, 16, 100):
            frames = frames_of([size] * 20 + [3])
            for every in (1, 2, 3, size - 1, size, size + 1, 2 * size, 5 * size + 1, 20 * size + 2, 20 * size + 3):
                if every > 0:
                    self.check(frames, every)

    def test_frames_of_any_sizes(self):
        pick = picker(142)
        for _ in range(100):
            frames = frames_of([pick.randrange(1, 40) for _ in range(pick.randrange(1, 30))])
            for every in (1, 2, 7, 16, 40, 97, 1000):
                self.check(frames, every)

    def test_an_empty_frame_list(self):
        for every in (1, 16, 1000):
            self.assertEqual([], self.unchanged(points_for, [], every))

    def test_a_new_list(self):
        frames = frames_of([4, 4])
        points_for(frames, 1).append(None)
        self.assertEqual(frames_of([4, 4]), frames)


class NearestPointTest(Case):
    def check(self, expected, points, sample):
        self.assertEqual(expected, self.unchanged(nearest_point, points, sample))

    def test_below_on_and_above_each_point(self):
        points = [(5, 9, 16), (6, 3, 1), (100, 70, 256)]
        for rest in ([], [None], [None, None]):
            for sample, expected in (
                (0, None), (4, None), (5, points[0]), (6, points[1]), (7, points[1]), (99, points[1]),
                (100, points[2]), (101, points[2]), (2 ** 64, points[2]),
            ):
                self.check(expected, points + rest, sample)

    def test_a_first_point_at_0(self):
        self.check((0, 0, 16), [(0, 0, 16), (16, 40, 16)], 0)
        self.check((0, 0, 16), [(0, 0, 16), (16, 40, 16)], 15)
        self.check((16, 40, 16), [(0, 0, 16), (16, 40, 16)], 16)

    def test_no_point_at_all(self):
        for points in ([], [None], [None, None]):
            for sample in (0, 1, 2 ** 36, MOST):
                self.check(None, points, sample)
