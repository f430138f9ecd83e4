"""Linear predictors: samples predicted by coefficients and a shift."""


def precision(coefficients):
    """The least width of a signed field that can hold each coefficient."""
    return max([_signed_width(coefficient) for coefficient in coefficients], default=1)


def linear_residuals(samples, coefficients, shift):
    """The residuals of all samples after the warm-up."""
    order = len(coefficients)
    backwards = coefficients[::-1]
    residuals = []
    for at in range(order, len(samples)):
        residuals.append(samples[at] - _prediction(samples[at - order:at], backwards, shift))
    return residuals


def linear_samples(warm_up, residuals, coefficients, shift, *, limit=None):
    """The warm-up and a sample for each residual, up to the first sample that exceeds the limit."""
    order = len(coefficients)
    backwards = coefficients[::-1]
    samples = list(warm_up)
    for residual in residuals:
        sample = _prediction(samples[len(samples) - order:], backwards, shift) + residual
        if limit is not None and not -limit <= sample < limit:
            break
        samples.append(sample)
    return samples


def _prediction(latest, backwards, shift):
    """The prediction behind the latest samples; the last coefficient comes first, as the oldest sample does."""
    return sum([coefficient * sample for coefficient, sample in zip(backwards, latest)]) >> shift


def _signed_width(number):
    """The least width of a signed field that can hold a number."""
    if number < 0:
        return (-number - 1).bit_length() + 1
    return number.bit_length() + 1
