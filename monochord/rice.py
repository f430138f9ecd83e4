"""Rice codes: integers as a unary field and a field of a chosen width."""


def fold(n):
    """The folded value of an integer: an integer from 0."""
    if n < 0:
        return -2 * n - 1
    return 2 * n


def unfold(u):
    """The integer whose folded value is `u`."""
    if u % 2 == 0:
        return u // 2
    return -(u // 2) - 1


def code_length(k, n):
    """The number of bits of the code of `n` with the parameter `k`."""
    return (fold(n) >> k) + 1 + k


def write_code(writer, k, n):
    """Append the code of `n` with the parameter `k`."""
    folded = fold(n)
    writer.write_unary(folded >> k)
    writer.write(k, folded & ((1 << k) - 1))


def read_code(reader, k):
    """The integer of the next code, which has the parameter `k`."""
    high = reader.read_unary()
    return unfold((high << k) | reader.read(k))
