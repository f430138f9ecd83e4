"""Seek tables: where some frames of a stream begin."""

from monochord.errors import InvalidForm, OutOfOrder
from monochord.words import big_bytes, big_number

_POINT_LENGTH = 18

# The sample of a point that is only a placeholder.
_NO_SAMPLE = 0xFFFFFFFFFFFFFFFF


def read_seektable(data, start, stop):
    """The points of the body from the index `start` up to, but not including, `stop`."""
    if (stop - start) % _POINT_LENGTH != 0:
        raise InvalidForm(start)
    points = []
    for place in range(start, stop, _POINT_LENGTH):
        point = _read_point(data, place)
        if len(points) > 0 and not _may_follow(points[-1], point):
            raise OutOfOrder(place)
        points.append(point)
    return points


def write_seektable(points):
    """The body of an ordered list of points."""
    data = []
    for point in points:
        data.extend(_write_point(point))
    return data


def is_ordered(points):
    """True if the samples ascend and only placeholders follow a placeholder."""
    return all([_may_follow(points[at - 1], points[at]) for at in range(1, len(points))])


def points_for(frames, every):
    """The frames that hold a multiple of an interval, a new list."""
    return [(sample, offset, count) for sample, offset, count in frames if _holds_multiple(sample, count, every)]


def nearest_point(points, sample):
    """The last point whose sample is not greater than a sample number, or None."""
    nearest = None
    for point in points:
        if point is not None and point[0] <= sample:
            nearest = point
    return nearest


def _read_point(data, place):
    """The point at a place, or None for a placeholder."""
    sample = big_number(data, place, 8)
    if sample == _NO_SAMPLE:
        return None
    return sample, big_number(data, place + 8, 8), big_number(data, place + 16, 2)


def _write_point(point):
    """The bytes of a point."""
    if point is None:
        return big_bytes(_NO_SAMPLE, 8) + [0] * 10
    sample, offset, count = point
    return big_bytes(sample, 8) + big_bytes(offset, 8) + big_bytes(count, 2)


def _may_follow(before, point):
    """True if a point may stand directly behind another one."""
    if point is None:
        return True
    return before is not None and before[0] < point[0]


def _holds_multiple(sample, count, every):
    """True if a frame of so many samples holds a multiple of an interval."""
    return (sample + count - 1) // every * every >= sample
