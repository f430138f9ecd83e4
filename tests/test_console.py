"""Chapter 32: the console."""

from monochord.audio import Audio
from monochord.blocks import read_blocks
from monochord.console import Console, parse_number
from monochord.decoder import decode
from monochord.editing import edit
from monochord.encoder import encode
from monochord.feeding import decode_pieces
from monochord.ogg import to_ogg
from monochord.seeking import salvage
from monochord.settings import Settings
from tests.support import Case, picker

def words(*values):
    """A line."""
    return " ".join([str(value) for value in values])


def event_words(event):
    """The line of an event."""
    if event[0] == "block":
        return words("block", event[1][0])
    if event[0] == "samples":
        return words("samples", event[1], len(event[2][0]))
    return words(*event)


class NumberTest(Case):
    def test_numbers(self):
        for text, number in (
            ("0", 0), ("1", 1), ("9", 9), ("10", 10), ("-1", -1), ("999999999", 999999999),
            ("-999999999", -999999999), ("100000000", 100000000), ("-10", -10),
        ):
            self.assertEqual(number, parse_number(text))
            self.assertIs(int, parse_number(text).__class__)

    def test_no_numbers(self):
        for text in (
            "", "-", "-0", "00", "01", "-01", "+1", "+0", "1000000000", "-1000000000", "0000000001", " 1", "1 ", "1.0",
            "1e3", "0x1", "1_0", "--1", "1-", "-1-", "a", "1a", "a1", "None", "True", "\t1", "1\n", "- 1", "012345678",
        ):
            with self.subTest(text):
                self.assertIsNone(parse_number(text))


class ConsoleCase(Case):
    def run_lines(self, *lines):
        """A console after some lines."""
        console = Console()
        for line in lines:
            console.execute(line)
        return console


class LineTest(ConsoleCase):
    def check(self, lines, expected):
        """Check the outputs of lines on a new console, one by one and all at once."""
        console, output = Console(), []
        for line in lines:
            told = console.execute(line)
            self.assertIs(list, told.__class__)
            self.assertTrue(all(one.__class__ is str for one in told))
            output += told
        self.assertEqual(expected, output)
        self.assertEqual(expected, self.unchanged(Console().execute_all, lines))

    def test_a_new_console(self):
        data = encode(Audio(8000, 8, [[]]), Settings(16), [])
        self.check(["encode", "decode", "frames"], [words("bytes", len(data)), "frames 0", "samples 0", "no fault"])
        self.check(["decode"], ["frames 0", "samples 0", "fault Truncated 0"])
        self.check(["byte 0 0", "cut 1", "cut 0"], ["invalid", "invalid", "bytes 0"])
        self.check(["append 1 2", "append 128", "append -129", "append -128 127"],
                   ["length 2", "invalid", "invalid", "length 4"])

    def test_the_example(self):
        self.check(
            ["append 5 5 5", "encode", "seek 2", "seek 3", "from 1", "cut 2", "decode"],
            ["length 3", "bytes 53", "frame 42 0 3", "none", "channel 5 5", "bytes 2", "frames 0", "samples 0",
             "fault Truncated 2"],
        )

    def test_audio(self):
        for rate, depth, count in ((0, 4, 1), (1048575, 32, 8), (44100, 16, 2)):
            data = encode(Audio(rate, depth, [[]] * count), Settings(16), [])
            self.check([words("audio", rate, depth, count), "encode", "from 0"],
                       ["ok", words("bytes", len(data))] + ["channel"] * count)
        for wrong in ("audio -1 8 1", "audio 1048576 8 1", "audio 8000 3 1", "audio 8000 33 1", "audio 8000 8 0",
                      "audio 8000 8 9", "audio 8000 8 -1", "audio 8000 -8 1"):
            self.check([wrong, "append 127", "append 128"], ["invalid", "length 1", "invalid"])
        # The audio becomes empty.
        self.check(["append 1 2", "audio 8000 8 1", "append 1"], ["length 2", "ok", "length 1"])

    def test_append(self):
        self.check(["audio 8000 8 3", "append 1 2 3", "append 4 5 6 7 8 9", "encode", "from 0"],
                   ["ok", "length 1", "length 3", "bytes 63", "channel 1 4 7", "channel 2 5 8", "channel 3 6 9"])
        for wrong in ("append 1", "append 1 2", "append 1 2 3 4", "append 1 2 128", "append -129 2 3", "append 1 2 x"):
            self.check(["audio 8000 8 3", wrong, "append 1 2 3"], ["ok", "invalid", "length 1"])
        for depth in range(4, 31):
            low, high = -(2 ** (depth - 1)), 2 ** (depth - 1) - 1
            self.check([words("audio 0", depth, 1), words("append", low, high), words("append", high + 1),
                        words("append", low - 1)], ["ok", "length 2", "invalid", "invalid"])
        self.check(["audio 0 32 1", "append 999999999 -999999999"], ["ok", "length 2"])

    def test_what_may_be_set(self):
        bounds = {
            "block_size": (16, 65535), "fixed_order": (0, 4), "linear_order": (0, 32), "precision": (5, 15),
            "partition_order": (0, 15), "seek_interval": (0, 999999999), "search": (0, 1), "wide": (0, 1),
            "stereo": (0, 1), "wasted": (0, 1),
        }
        samples = [at * at * 7 % 200 - 100 for at in range(100)]
        for name, (low, high) in bounds.items():
            for number in (low, high):
                self.check([words("set", name, number)], ["ok"])
                chosen = {name: number if high > 1 else number == 1}
                if name == "block_size":
                    settings = Settings(number)
                else:
                    settings = Settings(16, **chosen)
                data = encode(Audio(8000, 8, [samples[::2], samples[1::2]]), settings, [])
                self.check(["audio 8000 8 2", words("set", name, number), words("append", *samples), "encode"],
                           ["ok", "ok", "length 50", words("bytes", len(data))])
            for number in (low - 1, high + 1, -1, "-0", ""):
                if (name, number) != ("seek_interval", high + 1):
                    self.check([words("set", name, number)], ["invalid"])
        for wrong in ("set vendor 1", "set block_sizes 16", "set Block_size 16", "set block_size", "set", "set 16",
                      "set block_size 16 17", "set block_size x", "set 16 block_size", "set  16", "set rate 8000"):
            self.check([wrong], ["invalid"])

    def test_settings_stay(self):
        console = Console()
        lines = ["audio 8000 16 2", "set block_size 20", "set linear_order 3", "set search 1", "set precision 7",
                 "set wide 1", "set partition_order 2", "set fixed_order 1", "set stereo 0", "set wasted 0",
                 "set seek_interval 25"]
        self.assertEqual(["ok"] * len(lines), console.execute_all(lines))
        samples = [at * at * 12 % 2000 - 1000 for at in range(120)]
        console.execute(words("append", *samples))
        settings = Settings(20, linear_order=3, search=True, precision=7, wide=True, partition_order=2, fixed_order=1,
                            stereo=False, wasted=False, seek_interval=25)
        data = encode(Audio(8000, 16, [samples[::2], samples[1::2]]), settings, [])
        self.assertEqual([words("bytes", len(data))], console.execute("encode"))
        frames = [words("frame", *frame) for frame in decode(data).frames]
        self.assertEqual(frames, console.execute("frames"))
        self.assertEqual(["block 0", "block 3"], console.execute("pieces 9")[:2])

    def test_decode(self):
        self.check(
            ["append 5 5 5", "encode", "append 4", "decode", "append 5"],
            ["length 3", "bytes 53", "length 4", "frames 1", "samples 3", "no fault", "length 4"],
        )
        # With a fault, the audio stays.
        self.check(
            ["append 5 5 5", "encode", "append 4", "cut 52", "decode", "append 5"],
            ["length 3", "bytes 53", "length 4", "bytes 52", "frames 0", "samples 0", "fault Truncated 52", "length 5"],
        )
        self.check(
            ["audio 44100 12 2", "append 5 6", "encode", "audio 8000 8 1", "decode", "append 2047 -2048", "append 7"],
            ["ok", "length 1", "bytes 56", "ok", "frames 1", "samples 1", "no fault", "length 2", "invalid"],
        )

    def test_frames_and_salvage(self):
        samples = [at * 7 % 90 for at in range(40)]
        data = encode(Audio(8000, 8, [samples]), Settings(16), [])
        frames = decode(data).frames
        lines = [words("append", *samples), "encode"]
        output = ["length 40", words("bytes", len(data))]
        listed = [words("frame", *frame) for frame in frames]
        self.check(lines + ["frames", "salvage"], output + listed + listed)
        place = frames[1][0] + 3
        changed = data[:place] + [255] + data[place + 1:]
        self.check(lines + [words("byte", place, 255), "frames", "salvage"],
                   output + ["ok"] + listed[:1] + [words("frame", *frame) for frame in salvage(changed)])
        self.check(["frames", "salvage"], ["fault Truncated 0"])
        self.check(lines + ["byte 0 1", "frames", "salvage"], output + ["ok", "fault NotAStream 0"])
        self.check(["encode", "frames", "salvage"], ["bytes 42"])

    def test_seek_and_from(self):
        samples = [at * 7 % 90 for at in range(40)]
        data = encode(Audio(8000, 8, [samples]), Settings(16), [])
        frames = decode(data).frames
        lines = [words("append", *samples), "encode"]
        output = ["length 40", words("bytes", len(data))]
        for sample in (0, 15, 16, 39):
            self.check(lines + [words("seek", sample), words("from", sample)],
                       output + [words("frame", *frames[sample // 16]), words("channel", *samples[sample:])])
        self.check(lines + ["seek 40", "from 40", "seek 999999999"], output + ["none", "channel", "none"])
        self.check(lines + ["seek -1", "from -1", "seek", "from", "seek 1 2", "from 1 2"], output + ["invalid"] * 6)
        self.check(["seek 0", "from 0", "encode", "seek 0", "from 0"],
                   ["fault Truncated 0"] * 2 + ["bytes 42", "none", "channel"])
        self.check(["audio 8000 8 2", "append 1 2 3 4", "encode", "from 1"],
                   ["ok", "length 2", words("bytes", len(encode(Audio(8000, 8, [[1, 3], [2, 4]]), Settings(16), []))),
                    "channel 3", "channel 4"])

    def test_pieces(self):
        samples = [at * 7 % 90 for at in range(40)]
        data = encode(Audio(8000, 8, [samples]), Settings(16, seek_interval=16), [])
        lines = [words("append", *samples), "set seek_interval 16", "encode"]
        output = ["length 40", "ok", words("bytes", len(data))]
        expected = [event_words(event) for event in decode_pieces([data])]
        self.assertEqual(["block 0", "block 3", "samples 0 16", "samples 16 16", "samples 32 8", "end 40"], expected)
        for line in ("pieces 0", "pieces 1", "pieces 10 0 20 999999999", "pieces 999999999", "pieces 1 1 1 0 0 50"):
            self.check(lines + [line], output + expected)
        self.check(lines + ["cut 101", "pieces 5", "cut 3", "pieces 5", "cut 0", "pieces 5"],
                   output + ["bytes 101", "block 0", "block 3", "fault Truncated 101", "bytes 3", "fault Truncated 3",
                             "bytes 0", "fault Truncated 0"])
        self.check(["pieces", "pieces -1", "pieces 1 -1", "pieces x", "pieces 0"], ["invalid"] * 4
                   + ["fault Truncated 0"])

    def test_pad(self):
        self.check(["append 5 5", "encode", "pad 0", "pad 1000", "pieces 0", "decode"],
                   ["length 2", "bytes 53", "bytes 57", "bytes 1061", "block 0", "block 1", "block 1", "samples 0 2",
                    "end 2", "frames 1", "samples 2", "no fault"])
        self.check(["encode", "pad 1001", "pad -1", "pad", "pad 1 2"], ["bytes 42"] + ["invalid"] * 4)
        self.check(["pad 5", "pad 1001"], ["fault Truncated 0", "invalid"])

    def test_ogg_and_plain(self):
        data = encode(Audio(8000, 8, [[5, 5]]), Settings(16), [])
        for serial in (0, 1, 999999999):
            written = to_ogg(data, serial=serial)
            self.check(["append 5 5", "encode", words("ogg", serial), words("byte", len(written), 0), "decode",
                        "plain", "decode"],
                       ["length 2", "bytes 53", words("bytes", len(written)), "invalid", "frames 0", "samples 0",
                        "fault NotAStream 0", "bytes 53", "frames 1", "samples 2", "no fault"])
        self.check(["ogg 1", "plain", "encode", "plain", "ogg 1", "ogg 1", "plain", "decode"],
                   ["fault Truncated 0"] * 2 + ["bytes 42", "fault LostSync 0", "bytes 79", "fault NotAStream 0",
                                                "bytes 42", "frames 0", "samples 0", "no fault"])
        self.check(["ogg -1", "ogg", "ogg 1 2", "plain 1", "plain "], ["invalid"] * 5)

    def test_the_serial_number(self):
        console = self.run_lines("encode", "ogg 7")
        for serial, place in ((7, 14), (263, 15)):
            other = self.run_lines("encode", words("ogg", serial))
            self.assertEqual(["ok"], other.execute("byte 22 0"))
            self.assertEqual(["fault InvalidPage 0"], other.execute("plain"))
        self.assertEqual(["bytes 42"], console.execute("plain"))

    def test_byte(self):
        self.check(["encode", "byte 0 101", "decode", "byte 0 102", "decode", "byte 41 255", "byte 41 0"],
                   ["bytes 42", "ok", "frames 0", "samples 0", "fault NotAStream 0", "ok", "frames 0", "samples 0",
                    "no fault", "ok", "ok"])
        self.check(["encode", "byte 42 0", "byte -1 0", "byte 0 256", "byte 0 -1", "byte 0", "byte", "byte 0 0 0"],
                   ["bytes 42"] + ["invalid"] * 7)

    def test_cut(self):
        self.check(["encode", "cut 42", "cut 41", "cut 42", "cut 41", "cut 0", "cut 1", "cut 0", "cut -1"],
                   ["bytes 42", "bytes 42", "bytes 41", "invalid", "bytes 41", "bytes 0", "invalid", "bytes 0",
                    "invalid"])

    def test_execute_all(self):
        self.check([], [])
        self.check(["", "encode", ""], ["invalid", "bytes 42", "invalid"])
        console = Console()
        self.assertEqual(["length 1"], console.execute_all(["append 1"]))
        self.assertEqual(["length 2"], console.execute_all(["append 1"]))
        self.assertEqual(["length 3"], console.execute("append 1"))


class InvalidTest(ConsoleCase):
    LINES = (
        "", " ", "  ", "foo", "Encode", "ENCODE", "encode ", " encode", "encode 1", "decode 0", "frames 1", "salvage 1",
        "plain 1", "append", "append ", "append  1", "append 1  2", "append 1 ", "append -0", "append 01", "append +1",
        "append 1000000000", "append 1.0", "append x", "append 1 x", "append\t1", "append 1\n", "audio", "audio 1 8",
        "audio 1 8 1 1", "audio 1 8 x", "audio  8 1", "set", "set fixed_order", "set fixed_order 5", "set fixed_order -0",
        "set fixed_order 01", "set fixed 1", "set  1", "set fixed_order  1", "seek", "seek x", "seek -1", "seek 01",
        "from", "from -0", "pad", "pad 1001", "ogg", "ogg x", "byte", "byte 0", "byte 0 256", "byte 999 0", "cut",
        "cut 999", "cut -1", "pieces", "pieces ", "pieces -1", "0", "1 2", "decode decode", "append decode",
    )

    def test_nothing_changes(self):
        lines = ["append 5 6 7", "encode", "append 8 9", "set block_size 17", "set fixed_order 1"]
        expected = self.outcome(self.run_lines(*lines))
        for line in self.LINES:
            with self.subTest(line):
                console = self.run_lines(*lines)
                self.assertEqual(["invalid"], console.execute(line))
                self.assertEqual(expected, self.outcome(console))

    def outcome(self, console):
        """What a console shows of its data, its audio and its settings."""
        return console.execute_all(
            ["decode", "from 0", "pieces 0", "append 1", "encode", "pieces 0", "from 0", "append 1 2 3"]
        )

    def test_what_fails_changes_nothing(self):
        # Two consoles go through the same lines, one of them through failing ones, too.
        lines = ["append 5 6 7", "encode", "append 8 9", "set block_size 17", "byte 4 1"]
        faults = {
            "seek 0": "OutOfOrder 4", "from 0": "OutOfOrder 4", "salvage": "OutOfOrder 4", "pad 5": "OutOfOrder 4",
            "ogg 5": "OutOfOrder 4", "plain": "LostSync 0",
        }
        expected = self.run_lines(*lines).execute_all(["decode", "byte 4 128", "decode", "append 1"])
        for line, fault in faults.items():
            console = self.run_lines(*lines)
            self.assertEqual([words("fault", fault)], console.execute(line))
            told = console.execute_all(["decode", "byte 4 128", "decode", "append 1"])
            self.assertEqual(expected, told)
        self.assertEqual("length 4", expected[-1])


class FaultTest(ConsoleCase):
    def test_each_fault_by_its_name_and_place(self):
        samples = [at * 7 % 90 for at in range(20)]
        data = encode(Audio(8000, 8, [samples]), Settings(16), [])
        pick = picker(311)
        seen = set()
        for at in range(len(data)):
            byte = (data[at] + pick.randint(1, 255)) % 256
            changed = data[:at] + [byte] + data[at + 1:]
            console = self.run_lines(words("append", *samples), "encode", words("byte", at, byte))
            decoded = decode(changed)
            told = console.execute("decode")
            self.assertEqual([words("frames", len(decoded.frames)), words("samples", decoded.audio.length())], told[:2])
            expected = "no fault" if decoded.fault is None else words("fault", *decoded.fault)
            self.assertEqual(expected, told[2])
            self.assertEqual(3, len(told))
            if decoded.fault is not None:
                seen.add(decoded.fault[0])
                self.assertEqual([expected], console.execute("ogg 3"))
                self.assertEqual(event_words(("fault", *decoded.fault)), console.execute("pieces 20 30")[-1])
        self.assertTrue({"NotAStream", "Disagreement", "DigestMismatch", "HeaderChecksum", "FrameChecksum"} <= seen)

    def test_faults_of_ogg_files(self):
        for place, byte, fault in (
            (0, 1, "LostSync 0"), (4, 1, "ReservedValue 4"), (5, 8, "ReservedValue 5"), (22, 7, "InvalidPage 0"),
        ):
            console = self.run_lines("encode", "ogg 1", words("byte", place, byte))
            self.assertEqual([words("fault", fault)], console.execute("plain"))
        console = self.run_lines("encode", "ogg 1", "cut 60")
        self.assertEqual(["fault Truncated 60"], console.execute("plain"))

    def test_padding_and_seeking(self):
        data = encode(Audio(8000, 8, [[1] * 40]), Settings(16, seek_interval=16), [])
        console = self.run_lines(words("append", *[1] * 40), "set seek_interval 16", "encode", "pad 10")
        edited = edit(data, [("insert", 1, (1, 10))])
        self.assertEqual([words("frame", *frame) for frame in decode(edited).frames], console.execute("frames"))
        self.assertEqual(["block 0", "block 1", "block 3"], console.execute("pieces 0")[:3])
        self.assertEqual(3, len(read_blocks(edited)[0]))
