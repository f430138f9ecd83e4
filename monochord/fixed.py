"""Fixed predictors: samples predicted from up to four samples before them."""


def fixed_residuals(samples, order):
    """The residuals of all samples after the warm-up."""
    # The residuals of each order are the differences of those of the order below.
    residuals = list(samples)
    for _ in range(order):
        residuals = [late - early for early, late in zip(residuals, residuals[1:])]
    return residuals


def fixed_samples(warm_up, residuals, *, limit=None):
    """The warm-up and a sample for each residual, up to the first sample that exceeds the limit."""
    order = len(warm_up)
    samples = list(warm_up)
    for residual in residuals:
        sample = _prediction(samples, order) + residual
        if limit is not None and not -limit <= sample < limit:
            break
        samples.append(sample)
    return samples


def _prediction(samples, order):
    """The prediction of the sample behind these samples."""
    if order == 0:
        return 0
    if order == 1:
        return samples[-1]
    if order == 2:
        return 2 * samples[-1] - samples[-2]
    if order == 3:
        return 3 * samples[-1] - 3 * samples[-2] + samples[-3]
    return 4 * samples[-1] - 6 * samples[-2] + 4 * samples[-3] - samples[-4]
