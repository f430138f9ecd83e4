"""Subframes: the samples of one channel of one frame."""

from monochord.errors import InvalidForm, OutOfRange, ReservedValue
from monochord.fixed import fixed_residuals, fixed_samples
from monochord.linear import linear_residuals, linear_samples
from monochord.residual import read_residuals, residual_bits, write_residuals


class Subframe:
    """How the samples of a subframe are written."""

    def __init__(self, kind, *, order=0, precision=0, shift=0, coefficients=(), plan=None, wasted=0):
        self.kind = kind
        self.order = order
        self.precision = precision
        self.shift = shift
        self.coefficients = coefficients
        self.plan = plan
        self.wasted = wasted

    def __eq__(self, other):
        return (
            isinstance(other, Subframe)
            and self.kind == other.kind
            and self.order == other.order
            and self.precision == other.precision
            and self.shift == other.shift
            and self.coefficients == other.coefficients
            and self.plan == other.plan
            and self.wasted == other.wasted
        )


def write_subframe(writer, depth, samples, subframe):
    """Append a subframe."""
    width = depth - subframe.wasted
    values = [sample >> subframe.wasted for sample in samples]
    _write_header(writer, subframe)
    if subframe.kind == "constant":
        writer.write_signed(width, values[0])
    elif subframe.kind == "verbatim":
        _write_values(writer, width, values)
    else:
        _write_predicted(writer, width, values, subframe)


def read_subframe(reader, depth, size):
    """The samples and the Subframe at the position of a reader."""
    start = reader.byte_place()
    kind, order = _read_kind(reader)
    wasted = _read_wasted(reader, depth)
    width = depth - wasted
    if kind == "constant":
        values = [reader.read_signed(width)] * size
        subframe = Subframe(kind, wasted=wasted)
    elif kind == "verbatim":
        values = _read_values(reader, width, size)
        subframe = Subframe(kind, wasted=wasted)
    elif kind == "fixed":
        values, subframe = _read_fixed(reader, width, size, order, wasted)
    else:
        values, subframe = _read_linear(reader, width, size, order, wasted)
    if len(values) < size:
        raise OutOfRange(start)
    return [value << wasted for value in values], subframe


def subframe_bits(depth, samples, subframe):
    """The number of bits of a subframe."""
    width = depth - subframe.wasted
    header = 8 + subframe.wasted
    if subframe.kind == "constant":
        return header + width
    if subframe.kind == "verbatim":
        return header + width * len(samples)
    values = [sample >> subframe.wasted for sample in samples]
    order = _warm_up_length(subframe)
    residuals = _residuals(values, subframe)
    bits = header + width * order + residual_bits(subframe.plan, residuals, order)
    if subframe.kind == "linear":
        bits += 4 + 5 + subframe.precision * order
    return bits


def _warm_up_length(subframe):
    """The order of the predictor of a fixed or linear subframe."""
    if subframe.kind == "linear":
        return len(subframe.coefficients)
    return subframe.order


def _residuals(values, subframe):
    """The residuals of a fixed or linear subframe."""
    if subframe.kind == "linear":
        return linear_residuals(values, subframe.coefficients, subframe.shift)
    return fixed_residuals(values, subframe.order)


def _kind_code(subframe):
    """The kind code of a subframe."""
    if subframe.kind == "constant":
        return 0
    if subframe.kind == "verbatim":
        return 1
    if subframe.kind == "fixed":
        return 8 + _warm_up_length(subframe)
    return 31 + _warm_up_length(subframe)


def _write_header(writer, subframe):
    """Append the header of a subframe."""
    writer.write(1, 0)
    writer.write(6, _kind_code(subframe))
    if subframe.wasted == 0:
        writer.write(1, 0)
    else:
        writer.write(1, 1)
        writer.write_unary(subframe.wasted - 1)


def _write_values(writer, width, values):
    """Append signed fields of one width."""
    for value in values:
        writer.write_signed(width, value)


def _write_predicted(writer, width, values, subframe):
    """Append the body of a fixed or linear subframe."""
    order = _warm_up_length(subframe)
    _write_values(writer, width, values[:order])
    if subframe.kind == "linear":
        writer.write(4, subframe.precision - 1)
        writer.write_signed(5, subframe.shift)
        _write_values(writer, subframe.precision, subframe.coefficients)
    write_residuals(writer, subframe.plan, _residuals(values, subframe), order)


def _read_kind(reader):
    """The kind of a subframe and the order that its kind code tells."""
    place = reader.byte_place()
    if reader.read(1) == 1:
        raise InvalidForm(place)
    place = reader.byte_place()
    code = reader.read(6)
    if code == 0:
        return "constant", 0
    if code == 1:
        return "verbatim", 0
    if 8 <= code <= 12:
        return "fixed", code - 8
    if code >= 32:
        return "linear", code - 31
    raise ReservedValue(place)


def _read_wasted(reader, depth):
    """The number of wasted bits, which is less than the depth."""
    if reader.read(1) == 0:
        return 0
    place = reader.byte_place()
    wasted = reader.read_unary() + 1
    if wasted >= depth:
        raise InvalidForm(place)
    return wasted


def _read_values(reader, width, count):
    """So many signed fields of one width."""
    return [reader.read_signed(width) for _ in range(count)]


def _read_fixed(reader, width, size, order, wasted):
    """The values of a fixed subframe, without those behind one that is out of range, and its Subframe."""
    warm_up = _read_values(reader, width, order)
    plan, residuals = read_residuals(reader, size, order)
    values = fixed_samples(warm_up, residuals, limit=_limit(width))
    return values, Subframe("fixed", order=order, plan=plan, wasted=wasted)


def _read_linear(reader, width, size, order, wasted):
    """The values of a linear subframe, without those behind one that is out of range, and its Subframe."""
    warm_up = _read_values(reader, width, order)
    precision = _read_precision(reader)
    shift = _read_shift(reader)
    coefficients = tuple(_read_values(reader, precision, order))
    plan, residuals = read_residuals(reader, size, order)
    values = linear_samples(warm_up, residuals, coefficients, shift, limit=_limit(width))
    subframe = Subframe(
        "linear", order=order, precision=precision, shift=shift, coefficients=coefficients, plan=plan, wasted=wasted
    )
    return values, subframe


def _read_precision(reader):
    """The precision of the coefficients."""
    place = reader.byte_place()
    field = reader.read(4)
    if field == 15:
        raise InvalidForm(place)
    return field + 1


def _read_shift(reader):
    """The shift of a linear predictor."""
    place = reader.byte_place()
    shift = reader.read_signed(5)
    if shift < 0:
        raise InvalidForm(place)
    return shift


def _limit(width):
    """The least number above those of a signed field of this width."""
    return 1 << (width - 1)
