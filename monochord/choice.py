"""How rows of samples are stored: the subframes and the pairs of rows that need the fewest bits."""

from monochord.fixed import fixed_residuals
from monochord.linear import linear_residuals
from monochord.partition import best_coding
from monochord.spectrum import predictors
from monochord.stereo import split
from monochord.subframe import Subframe

# A residual is greater than the negative of this, and less than this.
_BOUND = 0x80000000

_HEADER_BITS = 8

# The fields of the precision and of the shift of a linear predictor.
_PREDICTOR_BITS = 9


def wasted_bits(samples):
    """The number of zero bits at the end that all samples have; one of them is not 0."""
    joined = 0
    for sample in samples:
        joined |= sample
    return (joined & -joined).bit_length() - 1


def best_subframe(samples, depth, settings):
    """The Subframe with which a row of samples needs the fewest bits, and these bits."""
    if min(samples) == max(samples):
        return Subframe("constant"), _HEADER_BITS + depth
    wasted = wasted_bits(samples) if settings.wasted else 0
    values = [sample >> wasted for sample in samples]
    width = depth - wasted
    candidates = [(Subframe("verbatim", wasted=wasted), _HEADER_BITS + wasted + len(values) * width)]
    candidates.extend(_fixed_candidates(values, width, wasted, settings))
    candidates.extend(_linear_candidates(values, width, wasted, settings))
    return _first_smallest(candidates)


def best_pair(left, right, depth, settings):
    """The assignment with which two channels need the fewest bits, the Subframes of its rows, and these bits."""
    left_row = best_subframe(left, depth, settings)
    right_row = best_subframe(right, depth, settings)
    ways = [_way("independent", left_row, right_row)]
    if settings.stereo:
        mid, side = split("mid-side", left, right)
        mid_row = best_subframe(mid, depth, settings)
        side_row = best_subframe(side, depth + 1, settings)
        ways.append(_way("left-side", left_row, side_row))
        ways.append(_way("side-right", side_row, right_row))
        ways.append(_way("mid-side", mid_row, side_row))
    return _first_smallest(ways)


def _way(assignment, first_row, second_row):
    """What `best_pair` tells of one assignment and of its rows, which are pairs of a Subframe and its bits."""
    first, first_bits = first_row
    second, second_bits = second_row
    return assignment, first, second, first_bits + second_bits


def _first_smallest(candidates):
    """The first of the tuples whose last items, their bits, are the fewest."""
    smallest = candidates[0]
    for candidate in candidates:
        if candidate[-1] < smallest[-1]:
            smallest = candidate
    return smallest


def _fixed_candidates(values, width, wasted, settings):
    """The fixed Subframes that are possible, with their bits."""
    candidates = []
    for order in range(min(settings.fixed_order, len(values) - 1) + 1):
        residuals = fixed_residuals(values, order)
        if _in_bounds(residuals):
            plan, bits = _best_plan(residuals, order, settings)
            subframe = Subframe("fixed", order=order, plan=plan, wasted=wasted)
            candidates.append((subframe, _HEADER_BITS + wasted + order * width + bits))
    return candidates


def _linear_candidates(values, width, wasted, settings):
    """The linear Subframes that are possible, with their bits."""
    orders = _linear_orders(len(values), settings)
    found = predictors(values, max(orders, default=0), settings.precision)
    candidates = []
    for order in orders:
        predictor = found[order - 1]
        if predictor is not None:
            coefficients, shift = predictor
            residuals = linear_residuals(values, coefficients, shift)
            if _in_bounds(residuals):
                plan, bits = _best_plan(residuals, order, settings)
                subframe = Subframe(
                    "linear", order=order, precision=settings.precision, shift=shift,
                    coefficients=tuple(coefficients), plan=plan, wasted=wasted
                )
                own_bits = order * width + _PREDICTOR_BITS + order * settings.precision
                candidates.append((subframe, _HEADER_BITS + wasted + own_bits + bits))
    return candidates


def _linear_orders(count, settings):
    """The linear orders that are tried for so many values."""
    lowest = 1 if settings.search else settings.linear_order
    return [order for order in range(lowest, settings.linear_order + 1) if 0 < order < count]


def _in_bounds(residuals):
    """True if each of the numbers is a residual."""
    return -_BOUND < min(residuals) and max(residuals) < _BOUND


def _best_plan(residuals, order, settings):
    """The best plan of residuals and its bits."""
    return best_coding(residuals, order, highest=settings.partition_order, wide=settings.wide)
