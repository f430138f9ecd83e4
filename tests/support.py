"""What several tests use: fields as strings of "0" and "1", and checks of errors and of arguments."""

import copy
import random
import unittest


def field(value, width):
    """The bits of a field."""
    assert 0 <= value < 2 ** width
    return bin(value)[2:].zfill(width) if width else ""


def signed(value, width):
    """The bits of a signed field."""
    assert -(2 ** (width - 1)) <= value < 2 ** (width - 1)
    return field(value % 2 ** width, width)


def unary(count):
    """The bits of a unary field."""
    return "0" * count + "1"


def rice(value, k):
    """The bits of a Rice code."""
    folded = 2 * value if value >= 0 else -2 * value - 1
    return unary(folded // 2 ** k) + field(folded % 2 ** k, k)


def to_bytes(bits):
    """The byte list of some bits, with zeros behind them up to a byte boundary."""
    bits += "0" * (-len(bits) % 8)
    return [int(bits[at:at + 8], 2) for at in range(0, len(bits), 8)]


def to_bits(data):
    """The bits of a byte list."""
    return "".join(field(byte, 8) for byte in data)


def picker(seed):
    """A sequence of numbers that is the same in each run."""
    return random.Random(seed)


class Case(unittest.TestCase):
    """A test case with the checks that the tests of this program share."""

    def check_raises(self, kind, place, call, *arguments):
        """Check that a call raises an error of exactly this class with this place."""
        try:
            result = call(*arguments)
        except Exception as error:
            self.assertIs(kind, error.__class__, repr(error))
            self.assertEqual(place, error.place)
            self.assertEqual(kind.__name__, error.name)
        else:
            self.fail(f"no error, but {result!r}")

    def unchanged(self, call, *arguments, **more):
        """What a call returns, after a check that it left its arguments as they were."""
        before = copy.deepcopy((arguments, more))
        result = call(*arguments, **more)
        self.assertEqual(before, (arguments, more))
        return result
