"""Chapter 13: stream information."""

from monochord.errors import Disagreement, InvalidForm
from monochord.streaminfo import StreamInfo, read_streaminfo, write_streaminfo
from tests.support import Case, field, picker, to_bytes

FULL = {
    "least_block": 16, "greatest_block": 4096, "least_frame": 12, "greatest_frame": 14, "rate": 44100,
    "channel_count": 2, "depth": 16, "length": 1000, "digest": list(range(1, 17)),
}


def info_of(**changed):
    """A StreamInfo with some attributes changed."""
    return StreamInfo(**{**FULL, **changed})


def body_of(**changed):
    """The body of a StreamInfo, by the table of point 13.1; values may break the other points."""
    told = {**FULL, **changed}
    bits = field(told["least_block"], 16) + field(told["greatest_block"], 16)
    bits += field(told["least_frame"], 24) + field(told["greatest_frame"], 24)
    bits += field(told["rate"], 20) + field(told["channel_count"] - 1, 3) + field(told["depth"] - 1, 5)
    bits += field(told["length"], 36)
    return to_bytes(bits) + told["digest"]


class StreamInfoTest(Case):
    def test_equality(self):
        changes = (
            ("least_block", 17), ("greatest_block", 4097), ("least_frame", 0), ("greatest_frame", 15),
            ("rate", 44101), ("channel_count", 1), ("depth", 17), ("length", 1001), ("digest", [0] * 16),
            ("digest", list(range(1, 16)) + [17]), ("digest", list(range(16))),
        )
        self.check_equality(StreamInfo, FULL, changes)

    def test_arguments_by_position(self):
        self.assertTrue(info_of() == StreamInfo(*FULL.values()))

    def test_fields(self):
        info = info_of()
        self.assertEqual(tuple(FULL.values()), info.fields())
        self.assertIs(tuple, info.fields().__class__)

    def test_fields_have_a_new_digest(self):
        info = info_of()
        info.fields()[8].append(1)
        info.fields()[8][0] = 200
        self.assertEqual(list(range(1, 17)), info.digest)
        self.assertEqual(list(range(1, 17)), info.fields()[8])

    def test_the_digest_is_copied(self):
        digest = [7] * 16
        info = info_of(digest=digest)
        digest[0] = 8
        self.assertEqual([7] * 16, info.digest)
        self.assertEqual([7] * 16, info.fields()[8])
        info.digest[1] = 9
        self.assertEqual([8] + [7] * 15, digest)

    def test_fixed_size(self):
        self.assertIs(True, info_of(least_block=16, greatest_block=16).fixed_size())
        self.assertIs(True, info_of(least_block=65535, greatest_block=65535).fixed_size())
        self.assertIs(False, info_of(least_block=16, greatest_block=17).fixed_size())
        self.assertIs(False, info_of(least_block=4095, greatest_block=4096).fixed_size())


class WritingAndReadingTest(Case):
    def check(self, **changed):
        """Check that a StreamInfo is written by the table, and read back between other bytes."""
        info = info_of(**changed)
        body = body_of(**changed)
        self.assertEqual(34, len(body))
        self.assertEqual(body, self.unchanged(write_streaminfo, info))
        for before in ([], [0, 255, 3]):
            for behind in ([], [0], [255] * 40):
                start = len(before)
                again = self.unchanged(read_streaminfo, before + body + behind, start, start + 34)
                self.assertTrue(info == again)
                self.assertEqual({**FULL, **changed}, again.__dict__)

    def test_both_ends_of_each_field(self):
        self.check()
        self.check(least_block=16, greatest_block=16)
        self.check(least_block=65535, greatest_block=65535)
        self.check(least_block=16, greatest_block=65535)
        for least, greatest in ((0, 0), (0, 1), (1, 0), (16777215, 0), (0, 16777215), (1, 1), (1, 16777215),
                                (16777215, 16777215), (16777214, 16777215)):
            self.check(least_frame=least, greatest_frame=greatest)
        for rate in (0, 1, 44100, 1048574, 1048575):
            self.check(rate=rate)
        for count in range(1, 9):
            self.check(channel_count=count)
        for depth in range(4, 33):
            self.check(depth=depth)
        for length in (0, 1, 2 ** 32 - 1, 2 ** 32, 68719476734, 68719476735):
            self.check(length=length)
        for digest in ([0] * 16, [255] * 16, list(range(16)), [0] * 15 + [1]):
            self.check(digest=digest)

    def test_any_values(self):
        pick = picker(131)
        for _ in range(300):
            least_block, greatest_block = sorted([pick.randrange(16, 65536), pick.randrange(16, 65536)])
            least_frame, greatest_frame = sorted([pick.randrange(2 ** 24), pick.randrange(2 ** 24)])
            self.check(
                least_block=least_block, greatest_block=greatest_block, least_frame=least_frame,
                greatest_frame=greatest_frame, rate=pick.randrange(2 ** 20), channel_count=pick.randrange(1, 9),
                depth=pick.randrange(4, 33), length=pick.randrange(2 ** 36),
                digest=[pick.randrange(256) for _ in range(16)],
            )

    def test_a_body_by_hand(self):
        info = StreamInfo(4608, 4608, 0xE, 0x10, 44100, 2, 16, 0xA1B2C3D4E, [9] * 16)
        body = [18, 0, 18, 0, 0, 0, 14, 0, 0, 16, 10, 196, 66, 250, 27, 44, 61, 78] + [9] * 16
        self.assertEqual(body, write_streaminfo(info))
        self.assertEqual(info.fields(), read_streaminfo(body, 0, 34).fields())

    def test_the_digest_that_is_read_is_a_new_list(self):
        body = body_of()
        read_streaminfo(body, 0, 34).digest[0] = 99
        self.assertEqual(body_of(), body)


class WrongInputsTest(Case):
    """The table of point 13.3."""

    # The cases in the order of the table, each with what breaks it; the length is no attribute.
    CASES = (
        (InvalidForm, 0, {"least_block": 15}),
        (InvalidForm, 2, {"greatest_block": 15}),
        (Disagreement, 2, {"least_block": 4097}),
        (Disagreement, 7, {"least_frame": 15}),
        (InvalidForm, 12, {"depth": 3}),
    )

    def check(self, kind, at, body):
        """Check the error of a body, also in the middle of a byte list."""
        for before in ([], [0], [255, 3, 9, 1]):
            for behind in ([], [0], [255] * 40):
                start = len(before)
                data = before + body + behind
                self.check_raises(kind, start + at, self.reader, data, start, start + len(body))

    def reader(self, data, start, stop):
        return self.unchanged(read_streaminfo, data, start, stop)

    def test_lengths(self):
        for body in ([], body_of()[:1], body_of()[:33], body_of() + [0], body_of() * 2):
            self.check(InvalidForm, 0, body)

    def test_a_length_comes_first(self):
        for _, _, broken in self.CASES:
            self.check(InvalidForm, 0, body_of(**broken)[:33])
            self.check(InvalidForm, 0, body_of(**broken) + [0])

    def test_each_case(self):
        for kind, at, broken in self.CASES:
            self.check(kind, at, body_of(**broken))

    def test_values_that_break_a_case_in_other_ways(self):
        for value in (0, 1, 14, 15):
            self.check(InvalidForm, 0, body_of(least_block=value))
            self.check(InvalidForm, 2, body_of(least_block=16, greatest_block=value))
            self.check(InvalidForm, 0, body_of(least_block=value, greatest_block=value))
        for least, greatest in ((17, 16), (65535, 65534), (65535, 16)):
            self.check(Disagreement, 2, body_of(least_block=least, greatest_block=greatest))
        for least, greatest in ((2, 1), (16777215, 1), (16777215, 16777214)):
            self.check(Disagreement, 7, body_of(least_frame=least, greatest_frame=greatest))
        for depth in (1, 2, 3):
            self.check(InvalidForm, 12, body_of(depth=depth))

    def test_two_cases_at_once(self):
        for at, (kind, place, broken) in enumerate(self.CASES):
            for _, _, others in self.CASES[at + 1:]:
                both = {**others, **broken}
                if "greatest_block" in others and "least_block" in broken:
                    both = {"least_block": 15, "greatest_block": 15}
                elif "greatest_block" in broken and "least_block" in others:
                    both = {"least_block": 4097, "greatest_block": 15}
                self.check(kind, place, body_of(**both))

    def test_all_cases_at_once(self):
        broken = {"least_block": 15, "greatest_block": 14, "least_frame": 15, "depth": 3}
        self.check(InvalidForm, 0, body_of(**broken))
        broken["least_block"] = 16
        self.check(InvalidForm, 2, body_of(**broken))
        broken["greatest_block"] = 16
        broken["least_block"] = 17
        self.check(Disagreement, 2, body_of(**broken))
        broken["greatest_block"] = 17
        self.check(Disagreement, 7, body_of(**broken))
        broken["least_frame"] = 14
        self.check(InvalidForm, 12, body_of(**broken))
        broken["depth"] = 4
        self.assertEqual(4, read_streaminfo(body_of(**broken), 0, 34).depth)
