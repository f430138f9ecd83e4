"""The names, arguments and places of what the interface lists."""

import importlib
import inspect
import unittest

ERRORS = (
    "MonochordError", "Truncated", "NotAStream", "LostSync", "ReservedValue", "InvalidForm", "HeaderChecksum",
    "FrameChecksum", "OutOfRange", "OutOfOrder", "Disagreement", "DigestMismatch", "TooLong", "InvalidText",
    "InvalidCueSheet", "InvalidPage", "InvalidEdit",
)

# For each module its functions, as they stand in the interface.
FUNCTIONS = {
    "checksums": ("crc8(data, start=0)", "crc16(data, start=0)", "crc32(data, start=0)"),
    "digest": ("md5(data)", "sample_bytes(channels, depth)"),
    "coded": ("write_number(number)", "read_number(reader)"),
    "rice": ("fold(n)", "unfold(u)", "code_length(k, n)", "write_code(writer, k, n)", "read_code(reader, k)"),
    "residual": (
        "legal_partition_order(size, order, partition_order)", "partition_sizes(size, order, partition_order)",
        "plan_fits(plan, residuals, order)", "residual_bits(plan, residuals, order)",
        "write_residuals(writer, plan, residuals, order)", "read_residuals(reader, size, order)",
    ),
    "fixed": ("fixed_residuals(samples, order)", "fixed_samples(warm_up, residuals, *, limit=None)"),
    "linear": (
        "precision(coefficients)", "linear_residuals(samples, coefficients, shift)",
        "linear_samples(warm_up, residuals, coefficients, shift, *, limit=None)",
    ),
    "subframe": (
        "write_subframe(writer, depth, samples, subframe)", "read_subframe(reader, depth, size)",
        "subframe_bits(depth, samples, subframe)",
    ),
    "stereo": (
        "split(assignment, left, right)", "join(assignment, first, second)", "row_depths(assignment, depth, count)",
    ),
    "header": ("write_header(header)", "read_header(reader, rate, depth)", "header_bytes(header)"),
    "frame": (
        "write_frame(header, rows, subframes)", "read_frame(reader, rate, depth)",
        "frame_bytes(header, rows, subframes)",
    ),
    "streaminfo": ("read_streaminfo(data, start, stop)", "write_streaminfo(info)"),
    "seektable": (
        "read_seektable(data, start, stop)", "write_seektable(points)", "is_ordered(points)",
        "points_for(frames, every)", "nearest_point(points, sample)",
    ),
    "text": ("points_of(string)", "write_utf8(text)", "read_utf8(data, start, stop)"),
    "comments": ("read_comments(data, start, stop)", "write_comments(comments)"),
    "cuesheet": (
        "is_valid_cue(sheet)", "read_cuesheet(data, start, stop)", "write_cuesheet(sheet)",
        "index_start(sheet, track_number, index_number)", "track_at(sheet, sample)",
    ),
    "picture": (
        "read_picture(data, start, stop)", "write_picture(picture)", "read_padding(data, start, stop)",
        "read_application(data, start, stop)", "write_application(application)",
    ),
    "blocks": (
        "read_blocks(data, at=0)", "read_marker(data, at)", "read_block(data, at, earlier)", "write_blocks(blocks)",
        "write_body(block)", "body_length(block)", "is_regular(blocks)", "blocks_of(blocks, kind)",
    ),
    "spectrum": (
        "weighted(samples)", "autocorrelation(values, most)", "exact_predictors(correlation)",
        "quantize(numerators, denominator, precision)", "predictors(samples, most, precision)",
    ),
    "partition": (
        "rice_bits(residuals, k)", "raw_width(residuals)", "best_entry(residuals, method)",
        "best_coding(residuals, order, *, highest, wide)",
    ),
    "choice": (
        "wasted_bits(samples)", "best_subframe(samples, depth, settings)", "best_pair(left, right, depth, settings)",
    ),
    "layout": ("block_sizes(length, settings)", "block_starts(sizes)", "size_range(length, settings)"),
    "encoder": (
        "encode_frame(audio, start, size, number, settings)", "encode_frames(audio, settings)",
        "frame_list(sizes, lengths)", "stream_info(audio, settings, lengths)", "encode(audio, settings, blocks)",
    ),
    "decoder": ("decode(data)", "check_frame(info, earlier, header, length)"),
    "feeding": ("decode_pieces(pieces)",),
    "seeking": (
        "first_sample(header, first_header)", "start_point(data, sample)", "find_frame(data, sample)",
        "decode_from(data, sample)", "salvage(data)",
    ),
    "ogg": (
        "lace(packet)", "write_page(page)", "read_page(data, at)", "to_ogg(data, *, serial, segments=255)",
        "from_ogg(data)",
    ),
    "editing": (
        "apply_act(blocks, act)", "edit(data, acts, reserve=None)", "metadata_length(data)", "frame_bytes(data)",
    ),
    "wave": ("write_wave(audio)", "read_wave(data)"),
    "limits": (
        "frame_limit(size, channels, depth)", "stream_metadata_length(length, settings, blocks)",
        "stream_limit(length, channels, depth, settings, blocks)",
    ),
    "console": ("parse_number(word)",),
}

# For each module its classes with their methods.
CLASSES = {
    "errors": {f"{name}(place)": () for name in ERRORS},
    "audio": {"Audio(rate, depth, channels)": ("length()", "rows(start, stop)", "__eq__(other)")},
    "bits": {
        "BitWriter()": (
            "write(width, value)", "write_signed(width, value)", "write_unary(count)", "pad()", "append_bytes(data)",
            "byte_list()", "bits_written()",
        ),
        "BitReader(data, at=0)": (
            "read(width)", "read_signed(width)", "read_unary()", "read_bytes(count)", "since(place)",
            "skip_padding()", "byte_place()", "bit_place()", "aligned()",
        ),
    },
    "digest": {"Md5()": ("feed(data)", "digest()")},
    "subframe": {
        "Subframe(kind, *, order=0, precision=0, shift=0, coefficients=(), plan=None, wasted=0)": ("__eq__(other)",),
    },
    "header": {
        "FrameHeader(*, variable, block_size, rate, channels, assignment, depth, number)": ("__eq__(other)",),
    },
    "streaminfo": {
        "StreamInfo(least_block, greatest_block, least_frame, greatest_frame, rate, channel_count, depth, length, "
        "digest)": ("fields()", "fixed_size()", "__eq__(other)"),
    },
    "comments": {
        "Comments(vendor, entries)": ("values_of(name)", "with_values(name, values)", "__eq__(other)"),
    },
    "cuesheet": {
        "CueTrack(offset, number, code, is_audio, emphasis, indexes)": ("fields()", "__eq__(other)"),
        "CueSheet(catalog, lead_in, is_disc, tracks)": ("__eq__(other)",),
    },
    "picture": {
        "Picture(use, media, description, width, height, bits, colours, content)": ("fields()", "__eq__(other)"),
    },
    "settings": {
        "Settings(block_size, *, block_sizes=None, fixed_order=4, linear_order=0, search=False, precision=12, "
        "partition_order=4, wide=False, stereo=True, wasted=True, seek_interval=0, vendor='')": ("__eq__(other)",),
    },
    "decoder": {"Decoded(info, blocks, audio, frames, fault)": ()},
    "feeding": {"Feeder()": ("feed(piece)", "finish()", "waiting()")},
    "ogg": {"Page(flags, granule, serial, number, segments)": ()},
    "console": {"Console()": ("execute(line)", "execute_all(lines)")},
}


def found(module, text):
    """What a module has under the name with which a text begins."""
    return getattr(importlib.import_module(f"monochord.{module}"), text.partition("(")[0])


class InterfaceTest(unittest.TestCase):
    def check_signature(self, text, thing):
        """Check that a function, a class or a method of an object takes the arguments of a text."""
        self.assertEqual(text, text.partition("(")[0] + str(inspect.signature(thing)))

    def test_functions(self):
        for module, texts in FUNCTIONS.items():
            for text in texts:
                with self.subTest(text):
                    function = found(module, text)
                    self.assertTrue(inspect.isfunction(function))
                    self.assertEqual(f"monochord.{module}", function.__module__)
                    self.check_signature(text, function)

    def test_classes(self):
        for module, classes in CLASSES.items():
            for text in classes:
                with self.subTest(text):
                    kind = found(module, text)
                    self.assertTrue(inspect.isclass(kind))
                    self.assertEqual(f"monochord.{module}", kind.__module__)
                    self.check_signature(text, kind)

    def test_methods_are_defined_in_the_class_itself(self):
        for module, classes in CLASSES.items():
            for text, methods in classes.items():
                kind = found(module, text)
                for method in methods:
                    with self.subTest(text, method=method):
                        function = kind.__dict__[method.partition("(")[0]]
                        self.assertTrue(inspect.isfunction(function))
                        inside = method.replace("(", "(self, ").replace(", )", ")")
                        self.check_signature(inside, function)
