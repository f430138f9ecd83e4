"""The examples of the interface, as they stand in the document, and those of README.md."""

import doctest
import os
import re
import unittest

README = os.path.join(os.path.dirname(os.path.dirname(os.path.abspath(__file__))), "README.md")

BITS = """
>>> from monochord.bits import BitWriter, BitReader
>>> w = BitWriter()
>>> w.write(3, 5)
>>> w.write_signed(4, -2)
>>> w.write_unary(2)
>>> w.byte_list()
[188, 64]

>>> from monochord.bits import BitReader
>>> r = BitReader([188, 64])
>>> [r.read(3), r.read_signed(4), r.read_unary(), r.byte_place()]
[5, -2, 2, 1]
"""

CHECKSUMS = """
>>> from monochord.checksums import crc8
>>> crc8([1])
7

>>> from monochord.checksums import crc16
>>> crc16([255])
514
"""

DIGEST = """
>>> from monochord.digest import sample_bytes
>>> sample_bytes([[1, -2], [300, 0]], 12)
[1, 0, 44, 1, 254, 255, 0, 0]
"""

CODED = """
>>> from monochord.coded import write_number
>>> [write_number(127), write_number(128), write_number(65536)]
[[127], [194, 128], [240, 144, 128, 128]]

>>> from monochord.bits import BitReader
>>> from monochord.coded import read_number
>>> r = BitReader([7, 194, 128, 9], 1)
>>> [read_number(r), r.byte_place()]
[128, 3]
"""

RICE = """
>>> from monochord.rice import fold, unfold, code_length
>>> [fold(-3), unfold(5), code_length(2, -3), code_length(0, 2)]
[5, -3, 4, 5]
"""

RESIDUAL = """
>>> from monochord.residual import partition_sizes, residual_bits
>>> partition_sizes(8, 2, 1)
[2, 4]
>>> residual_bits((0, 0, (("rice", 1),)), [1, -1], 0)
15

>>> from monochord.bits import BitReader
>>> from monochord.residual import read_residuals
>>> read_residuals(BitReader([0, 86]), 2, 0)
((0, 0, (('rice', 1),)), [1, -1])
"""

FIXED = """
>>> from monochord.fixed import fixed_residuals, fixed_samples
>>> fixed_residuals([3, 5, 8, 12], 2)
[1, 1]
>>> fixed_samples([3, 5], [1, 1], limit=12)
[3, 5, 8]
"""

LINEAR = """
>>> from monochord.linear import precision, linear_residuals
>>> linear_residuals([4, 7, 10], [3, -1], 1)
[2]
>>> linear_residuals([3, 0], [-1], 1)
[2]
>>> [precision([3, -1]), precision([0]), precision([-4]), precision([4])]
[3, 1, 3, 4]
"""

SUBFRAME = """
>>> from monochord.bits import BitWriter
>>> from monochord.subframe import Subframe, write_subframe
>>> writer = BitWriter()
>>> write_subframe(writer, 8, [-3, -3, -3], Subframe("constant"))
>>> writer.byte_list()
[0, 253]

>>> writer = BitWriter()
>>> write_subframe(writer, 8, [4, 8], Subframe("verbatim", wasted=2))
>>> writer.bits_written()
22
"""

STEREO = """
>>> from monochord.stereo import split, join
>>> split("mid-side", [5, -4], [2, -1])
([3, -3], [3, -3])

>>> join("mid-side", [3, -3], [3, -3])
([5, -4], [2, -1])
"""

HEADER = """
>>> from monochord.header import FrameHeader, write_header
>>> header = FrameHeader(variable=False, block_size=192, rate=44100, channels=1,
...     assignment="independent", depth=16, number=0)
>>> write_header(header)[:5]
[255, 248, 25, 8, 0]
"""

FRAME = """
>>> from monochord.frame import write_frame
>>> from monochord.header import FrameHeader
>>> from monochord.subframe import Subframe
>>> header = FrameHeader(variable=False, block_size=2, rate=8000, channels=1,
...     assignment="independent", depth=8, number=0)
>>> len(write_frame(header, [[7, 7]], [Subframe("constant")]))
11
"""

STREAMINFO = """
>>> from monochord.streaminfo import StreamInfo, write_streaminfo
>>> write_streaminfo(StreamInfo(16, 4096, 0, 14, 44100, 2, 16, 1000, [7] * 16))[:18]
[0, 16, 16, 0, 0, 0, 0, 0, 0, 14, 10, 196, 66, 240, 0, 0, 3, 232]
"""

SEEKTABLE = """
>>> from monochord.seektable import points_for
>>> points_for([(0, 0, 10), (10, 30, 10), (20, 55, 10), (30, 90, 4)], 15)
[(0, 0, 10), (10, 30, 10), (30, 90, 4)]
"""

COMMENTS = """
>>> from monochord.comments import Comments, write_comments
>>> write_comments(Comments([86], [([65], [233])]))
[1, 0, 0, 0, 86, 1, 0, 0, 0, 4, 0, 0, 0, 65, 61, 195, 169]

>>> from monochord.comments import Comments
>>> Comments([], [([97], [1]), ([66], [2]), ([65], [3])]).with_values([97], [[4], [5]]).entries
[([97], [4]), ([97], [5]), ([66], [2])]
"""

PICTURE = """
>>> from monochord.picture import Picture, write_picture
>>> write_picture(Picture(3, [97, 47, 98], [233], 1, 2, 24, 0, [9, 8]))
[0, 0, 0, 3, 0, 0, 0, 3, 97, 47, 98, 0, 0, 0, 2, 195, 169, 0, 0, 0, 1, 0, 0, 0, 2, 0, 0, 0, 24, 0, 0, 0, 0, 0, 0, 0, 2, 9, 8]

>>> from monochord.picture import read_application
>>> read_application([5, 0, 0, 1, 2, 77], 1, 6)
(258, [77])
"""

BLOCKS = """
>>> from monochord.streaminfo import StreamInfo
>>> from monochord.blocks import write_blocks
>>> info = StreamInfo(16, 16, 0, 0, 8000, 1, 8, 0, [0] * 16)
>>> write_blocks([(0, info), (1, 3)])[42:]
[129, 0, 0, 3, 0, 0, 0]
"""

SPECTRUM = """
>>> from monochord.spectrum import autocorrelation, exact_predictors, quantize, weighted
>>> autocorrelation(weighted([1, 1, 1]), 2)
[34, 24, 9]
>>> exact_predictors([34, 24, 9])
[([24], 34), ([600, -270], 580)]
>>> quantize([600, -270], 580, 5)
([8, -4], 3)
"""

PARTITION = """
>>> from monochord.partition import best_entry
>>> best_entry([0, 0, 0], 0)
(('rice', 0), 7)
>>> best_entry([0, 0, 0, 0, 0, 0], 0)
(('raw', 0), 9)

>>> from monochord.partition import best_coding
>>> best_coding([0, 1], 0, highest=1, wide=False)
((0, 0, (('rice', 0),)), 14)
"""

CHOICE = """
>>> from monochord.choice import wasted_bits
>>> wasted_bits([12, -8, 0])
2
"""

LAYOUT = """
>>> from monochord.settings import Settings
>>> from monochord.layout import block_sizes, size_range
>>> s = Settings(16, block_sizes=[20, 16])
>>> (block_sizes(60, s), size_range(60, s))
([20, 16, 20, 4], (16, 20))
"""

ENCODER = """
>>> from monochord.encoder import frame_list
>>> frame_list([16, 16, 8], [30, 20, 9])
[(0, 0, 16), (16, 30, 16), (32, 50, 8)]

>>> from monochord.audio import Audio
>>> from monochord.encoder import encode_frame
>>> from monochord.settings import Settings
>>> len(encode_frame(Audio(8000, 8, [[5] * 16]), 0, 16, 0, Settings(16)))
11
"""

DECODER = """
>>> from monochord.decoder import decode
>>> decode([102, 76, 1]).fault
('NotAStream', 0)

>>> decode([102, 76]).fault
('Truncated', 2)
"""

FEEDING = """
>>> from monochord.feeding import Feeder
>>> feeder = Feeder()
>>> feeder.feed([102, 76])
[]
>>> feeder.feed([1])
[('fault', 'NotAStream', 0)]
>>> feeder.finish()
[]
"""

SEEKING = """
>>> from monochord.audio import Audio
>>> from monochord.encoder import encode
>>> from monochord.settings import Settings
>>> from monochord.seeking import find_frame, decode_from
>>> data = encode(Audio(8000, 8, [list(range(40))]), Settings(16), [])
>>> find_frame(data, 35)[1:]
(32, 8)
>>> decode_from(data, 37)
[[37, 38, 39]]
"""

OGG = """
>>> from monochord.ogg import lace
>>> [len(segment) for segment in lace([1] * 510)]
[255, 255, 0]
"""

WAVE = """
>>> from monochord.audio import Audio
>>> from monochord.wave import write_wave
>>> write_wave(Audio(8000, 8, [[0, -128]]))[20:]
[1, 0, 1, 0, 64, 31, 0, 0, 64, 31, 0, 0, 1, 0, 8, 0, 100, 97, 116, 97, 2, 0, 0, 0, 128, 0]
"""

LIMITS = """
>>> from monochord.limits import frame_limit
>>> frame_limit(16, 2, 16)
84
"""

CONSOLE = """
>>> from monochord.console import Console
>>> console = Console()
>>> console.execute_all(["append 5 5 5", "encode", "seek 2", "seek 3", "from 1", "cut 2", "decode"])
['length 3', 'bytes 53', 'frame 42 0 3', 'none', 'channel 5 5', 'bytes 2', 'frames 0', 'samples 0', 'fault Truncated 2']
"""

EXAMPLES = {
    "bits": BITS, "checksums": CHECKSUMS, "digest": DIGEST, "coded": CODED, "rice": RICE, "residual": RESIDUAL,
    "fixed": FIXED, "linear": LINEAR, "subframe": SUBFRAME,
    "stereo": STEREO, "header": HEADER, "frame": FRAME, "streaminfo": STREAMINFO, "seektable": SEEKTABLE,
    "comments": COMMENTS, "picture": PICTURE, "blocks": BLOCKS, "spectrum": SPECTRUM, "partition": PARTITION,
    "choice": CHOICE, "layout": LAYOUT, "encoder": ENCODER, "decoder": DECODER, "feeding": FEEDING,
    "seeking": SEEKING, "ogg": OGG, "wave": WAVE, "limits": LIMITS, "console": CONSOLE,
}


class ExamplesTest(unittest.TestCase):
    def test_examples(self):
        for name, text in EXAMPLES.items():
            with self.subTest(name):
                example = doctest.DocTestParser().get_doctest(text, {}, name, None, 0)
                report = []
                result = doctest.DocTestRunner(verbose=False).run(example, out=report.append)
                self.assertGreater(result.attempted, 0)
                self.assertEqual(0, result.failed, "".join(report))

    def test_examples_of_the_readme(self):
        with open(README, encoding="ascii") as file:
            found = re.findall("```python\n(.*?)```", file.read(), flags=re.DOTALL)
        self.assertEqual(3, len(found))
        for text in found:
            exec(compile(text, README, "exec"), {})
