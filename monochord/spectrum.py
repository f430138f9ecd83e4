"""Linear predictors, designed from samples with integers only."""

_MOST_SHIFT = 15


def weighted(samples):
    """The samples, each with a weight that falls from the middle to both ends."""
    many = len(samples)
    return [sample * (at + 1) * (many - at) for at, sample in enumerate(samples)]


def autocorrelation(values, most):
    """The sums of the products of the values with those up to `most` places before."""
    return [sum([a * b for a, b in zip(values[lag:], values)]) for lag in range(most + 1)]


def exact_predictors(correlation):
    """For each order from 1 on, the numerators and the denominator of the predictor of an autocorrelation."""
    found = []
    if correlation[0] == 0:
        return found
    numerators = []
    before = 1
    denominator = correlation[0]
    for order in range(1, len(correlation)):
        last = _last_numerator(correlation, numerators, before)
        mirrored = list(reversed(numerators))
        numerators = [(denominator * a - last * b) // before for a, b in zip(numerators, mirrored)] + [last]
        found.append((numerators, denominator))
        before, denominator = denominator, (denominator * denominator - last * last) // before
    return found


def quantize(numerators, denominator, precision):
    """The coefficients of a predictor and their shift, or None if no coefficients of this precision serve."""
    bound = (1 << (precision - 1)) - 1
    # All coefficients fit a shift if the one with the greatest numerator does.
    greatest = max([abs(numerator) for numerator in numerators], default=0)
    shift = _MOST_SHIFT
    while shift >= 0 and _rounded(greatest << shift, denominator) > bound:
        shift -= 1
    if shift < 0 or _rounded(greatest << shift, denominator) == 0:
        return None
    return [_rounded(numerator << shift, denominator) for numerator in numerators], shift


def predictors(samples, most, precision):
    """For each order from 1 to `most` the quantized predictor of some samples, or None."""
    exact = exact_predictors(autocorrelation(weighted(samples), most))
    if len(exact) == 0:
        return [None] * most
    return [quantize(numerators, denominator, precision) for numerators, denominator in exact]


def _last_numerator(correlation, numerators, denominator):
    """The last numerator of the next order; the numerators and the denominator are those of two orders."""
    order = len(numerators) + 1
    known = sum([numerators[at] * correlation[order - 1 - at] for at in range(len(numerators))])
    return denominator * correlation[order] - known


def _rounded(a, b):
    """The integer that is nearest to the quotient of two integers, halves away from 0."""
    if a < 0:
        return -_rounded(-a, b)
    return (2 * a + b) // (2 * b)
