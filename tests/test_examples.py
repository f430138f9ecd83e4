"""The examples of the interface, as they stand in the document."""

import doctest
import unittest

BITS = """
>>> from monochord.bits import BitWriter, BitReader
>>> w = BitWriter()
>>> w.write(3, 5)
>>> w.write_signed(4, -2)
>>> w.write_unary(2)
>>> w.byte_list()
[188, 64]

>>> from monochord.bits import BitReader
>>> r = BitReader([188, 64])
>>> [r.read(3), r.read_signed(4), r.read_unary(), r.byte_place()]
[5, -2, 2, 1]
"""

CHECKSUMS = """
>>> from monochord.checksums import crc8
>>> crc8([1])
7

>>> from monochord.checksums import crc16
>>> crc16([255])
514
"""

DIGEST = """
>>> from monochord.digest import sample_bytes
>>> sample_bytes([[1, -2], [300, 0]], 12)
[1, 0, 44, 1, 254, 255, 0, 0]
"""

CODED = """
>>> from monochord.coded import write_number
>>> [write_number(127), write_number(128), write_number(65536)]
[[127], [194, 128], [240, 144, 128, 128]]

>>> from monochord.bits import BitReader
>>> from monochord.coded import read_number
>>> r = BitReader([7, 194, 128, 9], 1)
>>> [read_number(r), r.byte_place()]
[128, 3]
"""

RICE = """
>>> from monochord.rice import fold, unfold, code_length
>>> [fold(-3), unfold(5), code_length(2, -3), code_length(0, 2)]
[5, -3, 4, 5]
"""

RESIDUAL = """
>>> from monochord.residual import partition_sizes, residual_bits
>>> partition_sizes(8, 2, 1)
[2, 4]
>>> residual_bits((0, 0, (("rice", 1),)), [1, -1], 0)
15

>>> from monochord.bits import BitReader
>>> from monochord.residual import read_residuals
>>> read_residuals(BitReader([0, 86]), 2, 0)
((0, 0, (('rice', 1),)), [1, -1])
"""

FIXED = """
>>> from monochord.fixed import fixed_residuals, fixed_samples
>>> fixed_residuals([3, 5, 8, 12], 2)
[1, 1]
>>> fixed_samples([3, 5], [1, 1], limit=12)
[3, 5, 8]
"""

LINEAR = """
>>> from monochord.linear import precision, linear_residuals
>>> linear_residuals([4, 7, 10], [3, -1], 1)
[2]
>>> linear_residuals([3, 0], [-1], 1)
[2]
>>> [precision([3, -1]), precision([0]), precision([-4]), precision([4])]
[3, 1, 3, 4]
"""

SUBFRAME = """
>>> from monochord.bits import BitWriter
>>> from monochord.subframe import Subframe, write_subframe
>>> writer = BitWriter()
>>> write_subframe(writer, 8, [-3, -3, -3], Subframe("constant"))
>>> writer.byte_list()
[0, 253]

>>> writer = BitWriter()
>>> write_subframe(writer, 8, [4, 8], Subframe("verbatim", wasted=2))
>>> writer.bits_written()
22
"""

EXAMPLES = {
    "bits": BITS, "checksums": CHECKSUMS, "digest": DIGEST, "coded": CODED, "rice": RICE, "residual": RESIDUAL,
    "fixed": FIXED, "linear": LINEAR, "subframe": SUBFRAME,
}


class ExamplesTest(unittest.TestCase):
    def test_examples(self):
        for name, text in EXAMPLES.items():
            with self.subTest(name):
                example = doctest.DocTestParser().get_doctest(text, {}, name, None, 0)
                report = []
                result = doctest.DocTestRunner(verbose=False).run(example, out=report.append)
                self.assertGreater(result.attempted, 0)
                self.assertEqual(0, result.failed, "".join(report))
