"""Coded residuals: partitions of residuals, each with a coding of its own."""

from monochord.errors import InvalidForm, OutOfRange, ReservedValue
from monochord.rice import code_length, read_code, write_code

# A residual is greater than the negative of this, and less than this.
_BOUND = 0x80000000


def legal_partition_order(size, order, partition_order):
    """True if residuals of this size and order can be divided so."""
    count = 1 << partition_order
    return size % count == 0 and size // count > order


def partition_sizes(size, order, partition_order):
    """The numbers of residuals of the partitions, a new list."""
    whole = size >> partition_order
    return [whole - order] + [whole] * ((1 << partition_order) - 1)


def plan_fits(plan, residuals, order):
    """True if the residuals can be coded by this plan."""
    _, partition_order, codings = plan
    if not legal_partition_order(len(residuals) + order, order, partition_order):
        return False
    if len(codings) != 1 << partition_order:
        return False
    parts = _parts(residuals, order, partition_order)
    return all([_coding_fits(coding, part) for coding, part in zip(codings, parts)])


def residual_bits(plan, residuals, order):
    """The number of bits of the coded residuals."""
    method, partition_order, codings = plan
    bits = 6
    for coding, part in zip(codings, _parts(residuals, order, partition_order)):
        bits += _part_bits(method, coding, part)
    return bits


def write_residuals(writer, plan, residuals, order):
    """Append the coded residuals."""
    method, partition_order, codings = plan
    writer.write(2, method)
    writer.write(4, partition_order)
    for coding, part in zip(codings, _parts(residuals, order, partition_order)):
        _write_coding(writer, method, coding)
        _write_part(writer, coding, part)


def read_residuals(reader, size, order):
    """The plan and the residuals that are coded at the position of a reader."""
    method = _read_method(reader)
    partition_order = _read_partition_order(reader, size, order)
    codings = []
    residuals = []
    for count in partition_sizes(size, order, partition_order):
        coding = _read_coding(reader, method)
        codings.append(coding)
        residuals.extend(_read_part(reader, coding, count))
    return (method, partition_order, tuple(codings)), residuals


def _parts(residuals, order, partition_order):
    """The residuals, partition by partition."""
    parts = []
    start = 0
    for count in partition_sizes(len(residuals) + order, order, partition_order):
        parts.append(residuals[start:start + count])
        start += count
    return parts


def _coding_fits(coding, part):
    """True if the coding is not a raw one, or each residual is in the range of its width."""
    kind, width = coding
    if kind == "rice":
        return True
    return all([_fits_raw(width, residual) for residual in part])


def _fits_raw(width, residual):
    """True if a residual is in the range of a signed field, or 0 if there is no field."""
    if width == 0:
        return residual == 0
    half = 1 << (width - 1)
    return -half <= residual < half


def _coding_width(method):
    """The width of the field that tells the coding of a partition."""
    return 4 + method


def _raw_mark(method):
    """What the field of the coding holds for a raw coding: each bit is 1."""
    return (1 << _coding_width(method)) - 1


def _part_bits(method, coding, part):
    """The number of bits of a coding and of its partition."""
    kind, number = coding
    if kind == "raw":
        return _coding_width(method) + 5 + number * len(part)
    return _coding_width(method) + sum([code_length(number, residual) for residual in part])


def _write_coding(writer, method, coding):
    """Append the coding of a partition."""
    kind, number = coding
    if kind == "raw":
        writer.write(_coding_width(method), _raw_mark(method))
        writer.write(5, number)
    else:
        writer.write(_coding_width(method), number)


def _write_part(writer, coding, part):
    """Append the residuals of a partition."""
    kind, number = coding
    for residual in part:
        if kind == "rice":
            write_code(writer, number, residual)
        elif number > 0:
            writer.write_signed(number, residual)


def _read_method(reader):
    """The method: 0 or 1."""
    place = reader.byte_place()
    method = reader.read(2)
    if method > 1:
        raise ReservedValue(place)
    return method


def _read_partition_order(reader, size, order):
    """The partition order, which is legal."""
    place = reader.byte_place()
    partition_order = reader.read(4)
    if not legal_partition_order(size, order, partition_order):
        raise InvalidForm(place)
    return partition_order


def _read_coding(reader, method):
    """The coding of the next partition."""
    number = reader.read(_coding_width(method))
    if number == _raw_mark(method):
        return "raw", reader.read(5)
    return "rice", number


def _read_part(reader, coding, count):
    """The residuals of the next partition, which has so many."""
    kind, number = coding
    if kind == "rice":
        return [_read_residual(reader, number) for _ in range(count)]
    if number == 0:
        return [0] * count
    return [reader.read_signed(number) for _ in range(count)]


def _read_residual(reader, k):
    """The residual of the next code."""
    place = reader.byte_place()
    residual = read_code(reader, k)
    if -_BOUND < residual < _BOUND:
        return residual
    raise OutOfRange(place)
