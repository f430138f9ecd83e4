"""Chapter 00, point 00.4: the error classes."""

import unittest

from monochord import errors
from monochord.errors import MonochordError

NAMES = (
    "Truncated", "NotAStream", "LostSync", "ReservedValue", "InvalidForm", "HeaderChecksum", "FrameChecksum",
    "OutOfRange", "OutOfOrder", "Disagreement", "DigestMismatch", "TooLong", "InvalidText", "InvalidCueSheet",
    "InvalidPage", "InvalidEdit",
)


class ErrorsTest(unittest.TestCase):
    def test_base_is_derived_from_value_error_alone(self):
        self.assertEqual((ValueError,), MonochordError.__bases__)

    def test_each_class_is_derived_from_the_base_alone(self):
        for name in NAMES:
            with self.subTest(name):
                self.assertEqual((MonochordError,), getattr(errors, name).__bases__)

    def test_place_and_name(self):
        for name in ("MonochordError",) + NAMES:
            for place in (0, 1, 41, 2 ** 40):
                with self.subTest(name, place=place):
                    error = getattr(errors, name)(place)
                    self.assertEqual(place, error.place)
                    self.assertEqual(name, error.name)
                    self.assertIs(str, error.name.__class__)

    def test_raised_error_is_caught_by_its_class_the_base_and_value_error(self):
        for name in NAMES:
            kind = getattr(errors, name)
            for caught in (kind, MonochordError, ValueError):
                with self.subTest(name, caught=caught):
                    with self.assertRaises(caught) as context:
                        raise kind(3)
                    self.assertEqual((name, 3), (context.exception.name, context.exception.place))

    def test_errors_of_one_class_keep_their_own_places(self):
        first, second = errors.Truncated(1), errors.Truncated(2)
        self.assertEqual((1, 2), (first.place, second.place))

    def test_errors_raised_by_their_names(self):
        # Those with which decoding ends.
        for name in NAMES:
            if name not in ("TooLong", "InvalidPage", "InvalidEdit"):
                with self.subTest(name):
                    with self.assertRaises(MonochordError) as context:
                        errors.raise_named(name, 41)
                    self.assertIs(getattr(errors, name), context.exception.__class__)
                    self.assertEqual(41, context.exception.place)
