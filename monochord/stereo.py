"""The four assignments in which the two channels of a stereo frame are stored."""


def split(assignment, left, right):
    """The first and the second row in which two channels are stored."""
    if assignment == "left-side":
        return list(left), _side(left, right)
    if assignment == "side-right":
        return _side(left, right), list(right)
    if assignment == "mid-side":
        return _mid(left, right), _side(left, right)
    return list(left), list(right)


def join(assignment, first, second):
    """The left and the right channel that two rows hold."""
    if assignment == "left-side":
        return list(first), [left - side for left, side in zip(first, second)]
    if assignment == "side-right":
        return [right + side for side, right in zip(first, second)], list(second)
    if assignment == "mid-side":
        # The sum of left and right is odd if their difference is; the mid has lost that bit.
        doubles = [2 * mid + side % 2 for mid, side in zip(first, second)]
        left = [(double + side) >> 1 for double, side in zip(doubles, second)]
        right = [(double - side) >> 1 for double, side in zip(doubles, second)]
        return left, right
    return list(first), list(second)


def row_depths(assignment, depth, count):
    """The bit depths of the rows of a frame, a new list; a side needs one bit more than a channel."""
    if assignment == "independent":
        return [depth] * count
    if assignment == "side-right":
        return [depth + 1, depth]
    return [depth, depth + 1]


def _side(left, right):
    """The differences of two channels."""
    return [a - b for a, b in zip(left, right)]


def _mid(left, right):
    """The means of two channels, rounded towards negative infinity."""
    return [(a + b) >> 1 for a, b in zip(left, right)]
