"""Chapter 31: the guarantees over the whole program, and what chapter 00 says of all functions."""

import copy
import os

from monochord.audio import Audio
from monochord.blocks import read_blocks
from monochord.console import Console
from monochord.decoder import decode
from monochord.editing import apply_act, edit, frame_bytes, metadata_length
from monochord.encoder import encode, encode_frames, stream_info
from monochord.feeding import decode_pieces
from monochord.limits import stream_limit, stream_metadata_length
from monochord.ogg import from_ogg, read_page, to_ogg
from monochord.seeking import decode_from, find_frame, salvage, start_point
from monochord.settings import Settings
from monochord.streaminfo import StreamInfo
from monochord.wave import read_wave, write_wave
from tests.streams import BLOCKS, RATES, any_audio, ends_of, info_of
from tests.support import Case, picker

# Settings at both ends of their bounds.
ENDS = (
    {"fixed_order": 0, "partition_order": 0, "stereo": False, "wasted": False},
    {"fixed_order": 4, "linear_order": 32, "search": True, "precision": 15, "partition_order": 15, "wide": True,
     "seek_interval": 1, "vendor": "~" * 1000},
    {"linear_order": 1, "precision": 5, "seek_interval": 10 ** 9, "vendor": " "},
    {"linear_order": 32, "precision": 5, "wide": True, "block_sizes": [16]},
    {"block_sizes": [65535, 16], "linear_order": 2, "search": True, "seek_interval": 17},
)


def cases():
    """Audio of every depth and number of channels, with settings and blocks."""
    pick = picker(321)
    for depth in range(4, 33):
        for count in range(1, 9):
            if (depth + count) % 3 == 0 or count == 2:
                audio = any_audio(pick, depth, count, pick.choice([0, 1, 5, 16, 33, 50]), pick.choice(RATES))
                chosen = ENDS[pick.randrange(len(ENDS))]
                yield audio, Settings(pick.choice([16, 16, 20, 65535]), **chosen), pick.choice([[], list(BLOCKS)])


class GuaranteesTest(Case):
    def test_the_whole_way(self):
        for audio, settings, blocks in cases():
            data = self.unchanged(encode, audio, settings, blocks)
            decoded = self.unchanged(decode, data)
            self.assertIsNone(decoded.fault)
            self.assertTrue(audio == decoded.audio)
            kinds = [0] + [3] * (settings.seek_interval > 0 and audio.length() > 0) + [kind for kind, _ in blocks]
            kinds += [4] * (settings.vendor != "" and 4 not in kinds)
            self.assertEqual(kinds, [kind for kind, _ in decoded.blocks])
            length, count = audio.length(), len(audio.channels)
            self.assertLessEqual(len(data), stream_limit(length, count, audio.depth, settings, blocks))
            self.check_pieces(audio, data)
            self.check_seeking(audio, data)
            self.check_editing(audio, data)
            self.assertEqual(data, from_ogg(to_ogg(data, serial=3, segments=2)))
            told = read_wave(write_wave(audio))
            self.assertEqual((audio.rate, audio.depth, audio.channels), (told.rate, told.depth, told.channels))

    def check_pieces(self, audio, data):
        """Point 31.3: decoding in pieces."""
        for size in (7, 40, 1000):
            events = decode_pieces([data[at:at + size] for at in range(0, len(data), size)])
            rows = [event[2] for event in events if event[0] == "samples"]
            for at, channel in enumerate(audio.channels):
                self.assertEqual(channel, sum([row[at] for row in rows], []))
            self.assertEqual(("end", audio.length()), events[-1])

    def check_seeking(self, audio, data):
        """Point 31.3: seeking."""
        for sample in (0, 1, 15, 16, 32, 49, 1000):
            self.assertEqual(audio.rows(sample, audio.length()), decode_from(data, sample))
            self.assertEqual(sample < audio.length(), find_frame(data, sample) is not None)
        self.assertEqual(decode(data).frames, salvage(data))

    def check_editing(self, audio, data):
        """Point 31.4."""
        acts = [("tag", [65], [[66]]), ("insert", 1, (7, [1, 2, 3]))]
        for reserve in (None, 100):
            edited = edit(data, acts, reserve)
            self.assertEqual(frame_bytes(data), frame_bytes(edited))
            self.assertIsNone(decode(edited).fault)
            self.assertTrue(audio == decode(edited).audio)
            for kind, points in read_blocks(edited)[0]:
                for sample, offset, _ in (points if kind == 3 else ()):
                    self.assertEqual((metadata_length(edited) + offset, sample), start_point(edited, sample))
            self.check_seeking(audio, edited)

    def test_placeholders(self):
        audio = any_audio(picker(322), 8, 2, 60)
        data = encode(audio, Settings(16, seek_interval=20), [])
        points = read_blocks(data)[0][1][1]
        for at in range(len(points) + 1):
            edited = edit(data, [("replace", 1, (3, points[:at] + [None] * (len(points) - at)))])
            self.check_seeking(audio, edited)

    def test_prefixes(self):
        # Point 31.6.
        audio = any_audio(picker(323), 8, 2, 50)
        data = encode(audio, Settings(16, linear_order=2), [(1, 1)])
        changed = list(data)
        changed[decode(data).frames[2][0] + 8] ^= 16
        for whole in (data, changed):
            before = decode(whole)
            for length in range(len(whole) + 1):
                told = decode(whole[:length])
                self.assertEqual(before.frames[:len(told.frames)], told.frames)
                for channel, more in zip(told.audio.channels, before.audio.channels):
                    self.assertEqual(more[:len(channel)], channel)
                if told.fault is not None and told.fault[0] != "Truncated" and told.fault[1] < length:
                    self.assertEqual(told.fault, before.fault)
                    self.assertEqual(told.frames, before.frames)

    def test_different_audio_has_different_encodings(self):
        # Point 31.7.
        pick = picker(324)
        for depth in (4, 8, 32):
            low, high = ends_of(depth)
            for count in (1, 2, 3):
                seen = {}
                rows = [[pick.choice([low, high, 0, 1]) for _ in range(5)] for _ in range(count)]
                variants = [rows]
                for row in range(count):
                    for at in range(5):
                        for sample in (low, high, 0, 1, -1):
                            variant = copy.deepcopy(rows)
                            variant[row][at] = sample
                            variants.append(variant)
                variants.append(rows[::-1])
                for variant in variants:
                    data = tuple(encode(Audio(8000, depth, variant), Settings(16), []))
                    self.assertEqual(seen.setdefault(data, variant), variant)
                self.assertEqual(len({str(variant) for variant in variants}), len(seen))

    def test_encoding_is_deterministic(self):
        for audio, settings, blocks in list(cases())[::6]:
            first = encode(audio, settings, blocks)
            again = encode(copy.deepcopy(audio), copy.deepcopy(settings), copy.deepcopy(blocks))
            self.assertEqual(first, again)


class ArgumentsTest(Case):
    """Point 00.1: no function modifies its arguments."""

    def test_functions_over_streams(self):
        audio = any_audio(picker(325), 8, 2, 40)
        settings = Settings(16, seek_interval=16, block_sizes=[16, 20], vendor="v")
        blocks = list(BLOCKS)
        data = self.unchanged(encode, audio, settings, blocks)
        frames = self.unchanged(encode_frames, audio, settings)
        lengths = [len(frame) for frame in frames]
        self.unchanged(stream_info, audio, settings, lengths)
        self.unchanged(stream_metadata_length, 40, settings, blocks)
        self.unchanged(stream_limit, 40, 2, 8, settings, blocks)
        acts = [("tag", [65], [[66]]), ("insert", 1, (7, [1])), ("move", 1, 2), ("replace", 1, (8, [1]))]
        self.unchanged(edit, data, acts, 7)
        told = read_blocks(data)[0]
        for act in acts:
            self.unchanged(apply_act, told, act)
        written = self.unchanged(to_ogg, data, serial=1)
        self.unchanged(from_ogg, written)
        self.unchanged(read_page, written, 0)
        self.unchanged(read_wave, self.unchanged(write_wave, audio))
        for call in (find_frame, decode_from, start_point):
            self.unchanged(call, data, 20)
        for call in (decode, salvage, metadata_length, frame_bytes, decode_pieces):
            self.unchanged(call, [data] if call is decode_pieces else data)

    def test_results_are_not_parts_of_the_arguments(self):
        audio = Audio(8000, 8, [[1, 2, 3]])
        data = encode(audio, Settings(16), [])
        before = list(data)
        decode(data).audio.channels[0].append(7)
        frame_bytes(data).append(1)
        from_ogg(to_ogg(data, serial=1)).append(1)
        edit(data, []).append(1)
        decode_from(data, 0)[0].append(9)
        self.assertEqual(before, data)
        blocks = [(0, info_of())]
        apply_act(blocks, ("insert", 1, (7, []))).append(1)
        self.assertEqual(1, len(blocks))


class ProgramTest(Case):
    def test_no_clock_no_random_numbers_no_files(self):
        folder = os.path.join(os.path.dirname(os.path.dirname(os.path.abspath(__file__))), "monochord")
        for name in os.listdir(folder):
            if name.endswith(".py"):
                with open(os.path.join(folder, name), encoding="ascii") as file:
                    for row in file:
                        if row.startswith(("import ", "from ")):
                            self.assertTrue(row.startswith("from monochord."), row)

    def test_objects_are_equal_to_no_value_of_another_class(self):
        things = [Settings(16), Audio(8000, 8, [[1]]), info_of(), Console(), decode([])]
        for one in things:
            for other in things + [None, 0, 16, "", [], (), {}]:
                if one is not other:
                    self.assertFalse(one == other)
                    self.assertTrue(one != other)
        self.assertIsInstance(info_of(), StreamInfo)
