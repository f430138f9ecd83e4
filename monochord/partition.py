"""The plan of residuals that needs the fewest bits."""

from monochord.residual import legal_partition_order, partition_sizes
from monochord.rice import code_length, fold

# The numbers of Rice parameters of the methods 0 and 1.
_PARAMETERS = (15, 31)

_MOST_RAW_WIDTH = 31

# The bits of the method and of the partition order.
_HEAD_BITS = 6


def rice_bits(residuals, k):
    """The number of bits of the Rice codes of residuals."""
    return sum([code_length(k, residual) for residual in residuals])


def raw_width(residuals):
    """The least width of signed fields that hold the residuals, 0 if none of them differs from 0."""
    return _width([fold(residual) for residual in residuals])


def best_entry(residuals, method):
    """The best coding of a partition and the bits of the partition."""
    return _entry(_measured(residuals), method)


def best_coding(residuals, order, *, highest, wide):
    """The best plan of residuals and its bits."""
    size = len(residuals) + order
    top = max([p for p in range(highest + 1) if legal_partition_order(size, order, p)], default=0)
    methods = (0, 1) if wide else (0,)
    candidates = []
    parts = _measured_parts(residuals, partition_sizes(size, order, top))
    for partition_order in range(top, -1, -1):
        for method in methods:
            codings, bits = _entries(parts, method)
            candidates.append((bits, method, partition_order, codings))
        parts = _joined_in_pairs(parts)
    bits, method, partition_order, codings = min(candidates)
    return (method, partition_order, codings), bits


def _width(folded):
    """The raw width of values that are folded: folding keeps the sign in the lowest bit."""
    return max(folded, default=0).bit_length()


def _measured(residuals):
    """What tells the bits of a partition: the number of residuals, sums of their folded values, their raw width.

    The sum at the index `k` is that of the values shifted by `k`.
    """
    folded = [fold(residual) for residual in residuals]
    width = _width(folded)
    sums = [0] * _PARAMETERS[1]
    for k in range(min(width, _PARAMETERS[1])):
        sums[k] = sum([value >> k for value in folded])
    return len(residuals), sums, width


def _measured_parts(residuals, sizes):
    """The measures of partitions with these sizes."""
    parts = []
    start = 0
    for size in sizes:
        parts.append(_measured(residuals[start:start + size]))
        start += size
    return parts


def _joined_in_pairs(parts):
    """The measures of the partitions that consist of two neighbours each."""
    return [_joined(parts[at], parts[at + 1]) for at in range(0, len(parts) - 1, 2)]


def _joined(part, other):
    """The measure of two partitions together."""
    return part[0] + other[0], [a + b for a, b in zip(part[1], other[1])], max(part[2], other[2])


def _entry(part, method):
    """The best coding of a partition with this measure and the bits of the partition."""
    count, sums, width = part
    field = 4 + method
    bits, k = min([(field + count * (1 + k) + sums[k], k) for k in range(_PARAMETERS[method])])
    raw_bits = field + 5 + count * width
    if width <= _MOST_RAW_WIDTH and raw_bits < bits:
        return ("raw", width), raw_bits
    return ("rice", k), bits


def _entries(parts, method):
    """The best codings of partitions with these measures, and the bits of all of them with the method and order."""
    entries = [_entry(part, method) for part in parts]
    codings = tuple([coding for coding, _ in entries])
    return codings, _HEAD_BITS + sum([bits for _, bits in entries])
