"""What chooses subframes and pairs by trying all candidates one by one, and samples and settings to try it with."""

from monochord.bits import BitWriter
from monochord.partition import best_coding
from monochord.settings import Settings
from monochord.spectrum import predictors
from monochord.subframe import Subframe, write_subframe

BOUND = 2 ** 31


def differences(values, order):
    """The residuals of a fixed predictor, by the formulas of point 07.1."""
    factors = {0: [], 1: [1], 2: [2, -1], 3: [3, -3, 1], 4: [4, -6, 4, -1]}[order]
    return [
        values[at] - sum(factor * values[at - 1 - k] for k, factor in enumerate(factors))
        for at in range(order, len(values))
    ]


def predicted(values, coefficients, shift):
    """The residuals of a linear predictor, by point 08.2."""
    order = len(coefficients)
    return [
        values[at] - (sum(c * values[at - 1 - k] for k, c in enumerate(coefficients)) // 2 ** shift)
        for at in range(order, len(values))
    ]


def common_zeros(samples):
    """The largest w for which 2^w divides every sample."""
    w = 0
    while all(sample % 2 ** (w + 1) == 0 for sample in samples):
        w += 1
    return w


def written_bits(samples, depth, subframe):
    """The number of bits that a subframe takes."""
    writer = BitWriter()
    write_subframe(writer, depth, samples, subframe)
    return writer.bits_written()


def candidates(samples, depth, settings):
    """All candidates of point 21.4 in order, as pairs of a Subframe and its bits."""
    if len(set(samples)) == 1:
        return [(Subframe("constant"), 8 + depth)]
    w = common_zeros(samples) if settings.wasted else 0
    values = [sample // 2 ** w for sample in samples]
    n, b = len(values), depth - w
    found = [(Subframe("verbatim", wasted=w), 8 + w + n * b)]
    for p in range(0, min(settings.fixed_order, n - 1) + 1):
        residuals = differences(values, p)
        if all(-BOUND < r < BOUND for r in residuals):
            plan, bits = best_coding(residuals, p, highest=settings.partition_order, wide=settings.wide)
            found.append((Subframe("fixed", order=p, plan=plan, wasted=w), 8 + w + p * b + bits))
    tried = []
    if settings.linear_order > 0:
        tried = range(1, settings.linear_order + 1) if settings.search else [settings.linear_order]
    quantized = predictors(values, settings.linear_order, settings.precision)
    for p in tried:
        if p >= n or quantized[p - 1] is None:
            continue
        coefficients, shift = quantized[p - 1]
        residuals = predicted(values, coefficients, shift)
        if all(-BOUND < r < BOUND for r in residuals):
            plan, bits = best_coding(residuals, p, highest=settings.partition_order, wide=settings.wide)
            subframe = Subframe(
                "linear", order=p, precision=settings.precision, shift=shift, coefficients=tuple(coefficients),
                plan=plan, wasted=w,
            )
            found.append((subframe, 8 + w + p * b + 4 + 5 + p * settings.precision + bits))
    return found


def first_smallest(pairs):
    """The first of the tuples with the fewest bits."""
    fewest = min(pair[-1] for pair in pairs)
    return [pair for pair in pairs if pair[-1] == fewest][0]


def ways(left, right, depth, settings):
    """The ways of point 21.6 in order, as `best_pair` tells them."""
    side = [a - b for a, b in zip(left, right)]
    mid = [(a + b) // 2 for a, b in zip(left, right)]
    rows = {
        "independent": ((left, depth), (right, depth)), "left-side": ((left, depth), (side, depth + 1)),
        "side-right": ((side, depth + 1), (right, depth)), "mid-side": ((mid, depth), (side, depth + 1)),
    }
    found = []
    for assignment in ("independent", "left-side", "side-right", "mid-side"):
        if assignment == "independent" or settings.stereo:
            (first, a), (second, b) = [
                first_smallest(candidates(row, own_depth, settings)) for row, own_depth in rows[assignment]
            ]
            found.append((assignment, first, second, a + b))
    return found


def any_samples(pick, n, depth):
    """Samples of one of several kinds: noise, a slow curve, steps, multiples of a power of two, or few values."""
    low, high = -(2 ** (depth - 1)), 2 ** (depth - 1) - 1
    kind = pick.randrange(6)
    if kind == 0:
        return [pick.randint(low, high) for _ in range(n)]
    if kind == 1:
        value, speed, samples = 0, 0, []
        for _ in range(n):
            speed += pick.randint(-1, 1)
            value = max(low, min(high, value + speed))
            samples.append(value)
        return samples
    if kind == 2:
        return [pick.choice([low, high, 0]) for _ in range(n)]
    if kind == 3:
        w = pick.randrange(0, depth)
        return [pick.randint(low >> w, high >> w) << w for _ in range(n)]
    if kind == 4:
        return [pick.randint(max(low, -2), min(high, 2)) for _ in range(n)]
    return [pick.randint(low, high)] * n


def any_settings(pick, **more):
    """Any Settings."""
    chosen = {
        "fixed_order": pick.randrange(5), "linear_order": pick.choice([0, 0, 1, 2, 3, 5, 8, 32]),
        "search": pick.random() < 0.5, "precision": pick.randrange(5, 16), "partition_order": pick.randrange(0, 16),
        "wide": pick.random() < 0.5, "stereo": pick.random() < 0.8, "wasted": pick.random() < 0.7,
    }
    chosen.update(more)
    return Settings(16, **chosen)


def wave(pick, n, noise):
    """Samples that a linear predictor of order 2 predicts well, and no fixed one does."""
    a, b, samples = 9000, -7000, []
    for _ in range(n):
        a, b = b, -(3 * b + 38 * a) // 40 + pick.randint(-noise, noise)
        samples.append(b)
    return samples
