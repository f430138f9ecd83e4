"""What several tests use: fields as strings of "0" and "1", and checks of errors and of arguments."""

import copy
import random
import unittest


def field(value, width):
    """The bits of a field."""
    assert 0 <= value < 2 ** width
    return bin(value)[2:].zfill(width) if width else ""


def signed(value, width):
    """The bits of a signed field."""
    assert -(2 ** (width - 1)) <= value < 2 ** (width - 1)
    return field(value % 2 ** width, width)


def unary(count):
    """The bits of a unary field."""
    return "0" * count + "1"


def rice(value, k):
    """The bits of a Rice code."""
    folded = 2 * value if value >= 0 else -2 * value - 1
    return unary(folded // 2 ** k) + field(folded % 2 ** k, k)


def to_bytes(bits):
    """The byte list of some bits, with zeros behind them up to a byte boundary."""
    bits += "0" * (-len(bits) % 8)
    return [int(bits[at:at + 8], 2) for at in range(0, len(bits), 8)]


def to_bits(data):
    """The bits of a byte list."""
    return "".join(field(byte, 8) for byte in data)


def picker(seed):
    """A sequence of numbers that is the same in each run."""
    return random.Random(seed)


class LookAlike:
    """An object of another class with the attributes of one of the program, and with its fields."""

    def __init__(self, thing):
        self.__dict__.update(thing.__dict__)
        self.told = thing.fields() if hasattr(thing, "fields") else ()

    def fields(self):
        return self.told


class Case(unittest.TestCase):
    """A test case with the checks that the tests of this program share."""

    def check_raises(self, kind, place, call, *arguments):
        """Check that a call raises an error of exactly this class with this place."""
        try:
            result = call(*arguments)
        except Exception as error:
            self.assertIs(kind, error.__class__, repr(error))
            self.assertEqual(place, error.place)
            self.assertEqual(kind.__name__, error.name)
        else:
            self.fail(f"no error, but {result!r}")

    def unchanged(self, call, *arguments, **more):
        """What a call returns, after a check that it left its arguments as they were."""
        before = copy.deepcopy((arguments, more))
        result = call(*arguments, **more)
        self.assertEqual(before, (arguments, more))
        return result

    def check_equality(self, kind, attributes, changes):
        """Check the attributes of an object and what it is equal to.

        `attributes` are all arguments of its class, and `changes` are pairs of one of their names and another value.
        """
        one = kind(**attributes)
        for name, value in attributes.items():
            self.assertEqual(value, getattr(one, name), name)
        same = kind(**copy.deepcopy(attributes))
        self.assertIs(True, one == same)
        self.assertIs(False, one != same)
        self.assertEqual(sorted(attributes), sorted({name for name, _ in changes}))
        for name, value in changes:
            with self.subTest(name, value=value):
                other = kind(**{**attributes, name: value})
                self.assertIs(False, one == other)
                self.assertIs(False, other == one)
                self.assertIs(True, one != other)
        values = list(attributes.values())
        for other in (None, 0, 1, "", kind.__name__, values, tuple(values), attributes, kind, LookAlike(one)):
            with self.subTest(other):
                self.assertIs(False, one == other)
                self.assertIs(False, other == one)
                self.assertIs(True, one != other)
        self.assertEqual(attributes, {name: getattr(one, name) for name in attributes})
