"""Chapter 18: metadata blocks."""

from monochord.blocks import (
    blocks_of, body_length, is_regular, metadata_bytes, read_block, read_blocks, read_marker, write_blocks,
    write_body,
)
from monochord.comments import Comments, write_comments
from monochord.cuesheet import CueSheet, CueTrack, write_cuesheet
from monochord.errors import (
    Disagreement, InvalidCueSheet, InvalidForm, InvalidText, NotAStream, OutOfOrder, ReservedValue, TooLong, Truncated,
)
from monochord.picture import Picture, write_application, write_picture
from monochord.seektable import write_seektable
from monochord.streaminfo import StreamInfo, write_streaminfo
from tests.support import Case, picker

MARKER = [102, 76, 97, 67]
MOST = 16777215

INFO = StreamInfo(16, 4096, 0, 14, 44100, 2, 16, 1000, [7] * 16)
SHEET = CueSheet([], 0, False, [
    CueTrack(0, 1, [], True, False, [(0, 1)]), CueTrack(1000, 255, [], True, False, []),
])


def picture(use=3, content=(9, 8)):
    """A picture with a use."""
    return Picture(use, [97], [233], 1, 2, 24, 0, list(content))


# A block of each kind with its body.
KINDS = (
    ((0, INFO), write_streaminfo(INFO)),
    ((1, 5), [0] * 5),
    ((1, 0), []),
    ((2, (258, [1, 2])), write_application((258, [1, 2]))),
    ((3, [(0, 0, 16), None]), write_seektable([(0, 0, 16), None])),
    ((3, []), []),
    ((4, Comments([86], [([65], [233])])), write_comments(Comments([86], [([65], [233])]))),
    ((5, SHEET), write_cuesheet(SHEET)),
    ((6, picture()), write_picture(picture())),
    ((7, [1, 2, 3]), [1, 2, 3]),
    ((7, []), []),
    ((64, [255] * 300), [255] * 300),
    ((126, [0]), [0]),
)

LISTS = (
    [(0, INFO)],
    [(0, INFO), (1, 0)],
    [(0, INFO), (1, 300), (1, 0), (1, 70000)],
    [block for block, _ in KINDS if block != (3, [])],
    [(0, INFO), (126, [1]), (7, []), (7, [2]), (126, [1])],
    [(0, INFO), (6, picture(1)), (6, picture(2)), (6, picture(3)), (6, picture(3)), (6, picture(0)), (6, picture(0))],
    [(0, INFO), (5, SHEET), (5, SHEET), (2, (0, [])), (2, (0, []))],
    [(0, INFO), (4, Comments([], [])), (3, [None])],
)


def head(kind, length, last=False):
    """The head of a block."""
    return [kind + 128 * last] + list(length.to_bytes(3, "big"))


def body_of(block):
    """The body of one of the blocks above, or of another one of a kind that needs no class."""
    kind, value = block
    for own, body in KINDS:
        if own == block:
            return body
    if kind == 1:
        return [0] * value
    writers = {
        0: write_streaminfo, 2: write_application, 3: write_seektable, 4: write_comments, 5: write_cuesheet,
        6: write_picture,
    }
    return writers[kind](value) if kind in writers else list(value)


def metadata(blocks):
    """The metadata of a list of blocks, by point 18.3."""
    data = list(MARKER)
    for at, block in enumerate(blocks):
        body = body_of(block)
        data += head(block[0], len(body), at == len(blocks) - 1) + body
    return data


class WritingAndReadingTest(Case):
    def check(self, blocks):
        """Check that blocks are written by point 18.3, and read back from any index."""
        self.assertIs(True, self.unchanged(is_regular, blocks))
        data = metadata(blocks)
        self.assertEqual(data, self.unchanged(write_blocks, blocks))
        self.assertEqual(len(data), self.unchanged(metadata_bytes, blocks))
        self.assertEqual((blocks, len(data)), self.unchanged(read_blocks, data))
        for before in ([], [0], [102, 76, 97, 67, 255]):
            for behind in ([], [0], [255] * 5):
                result = self.unchanged(read_blocks, before + data + behind, len(before))
                self.assertIs(tuple, result.__class__)
                self.assertEqual((blocks, len(before) + len(data)), result)
                self.assertTrue(all(block.__class__ is tuple for block in result[0]))

    def test_lists_of_blocks(self):
        for blocks in LISTS:
            self.check(blocks)

    def test_every_kind_without_a_name(self):
        for kind in range(7, 127):
            self.check([(0, INFO), (kind, [kind, 1, 2])])

    def test_many_blocks(self):
        self.check([(0, INFO)] + [(9, [at % 256]) for at in range(5000)])

    def test_a_small_stream_by_hand(self):
        data = write_blocks([(0, INFO), (2, (1, [5])), (126, [])])
        self.assertEqual(
            MARKER + [0, 0, 0, 34] + write_streaminfo(INFO) + [2, 0, 0, 5, 0, 0, 0, 1, 5, 254, 0, 0, 0], data
        )
        self.assertEqual(MARKER + [128, 0, 0, 34] + write_streaminfo(INFO), write_blocks([(0, INFO)]))

    def test_bodies(self):
        for block, body in KINDS:
            self.assertEqual(body, self.unchanged(write_body, block))
            length = self.unchanged(body_length, block)
            self.assertEqual(len(body), length)

    def test_new_lists(self):
        content = [1, 2]
        write_body((7, content)).append(3)
        self.assertEqual([1, 2], content)
        data = metadata([(0, INFO), (7, content)])
        read_blocks(data)[0][1][1].append(3)
        self.assertEqual(metadata([(0, INFO), (7, content)]), data)

    def test_the_values_of_one_kind(self):
        blocks = LISTS[4] + [(1, 5), (7, [3]), (1, 0)]
        for kind, expected in ((0, [INFO]), (7, [[], [2], [3]]), (126, [[1], [1]]), (1, [5, 0]), (3, []), (6, [])):
            self.assertEqual(expected, self.unchanged(blocks_of, blocks, kind))
        self.assertEqual([], blocks_of([], 0))


class LongBodiesTest(Case):
    def test_the_longest_body(self):
        blocks = [(0, INFO), (1, MOST)]
        data = write_blocks(blocks)
        self.assertEqual(4 + 38 + 4 + MOST, len(data))
        self.assertEqual([129, 255, 255, 255, 0], data[42:47])
        self.assertEqual((blocks, len(data)), read_blocks(data))

    def test_the_longest_content(self):
        blocks = [(0, INFO), (7, [3] * MOST), (1, 0)]
        data = write_blocks(blocks)
        self.assertEqual([7, 255, 255, 255, 3], data[42:47])
        self.assertEqual((blocks, len(data)), read_blocks(data))

    def test_bodies_that_are_too_long(self):
        self.check_raises(TooLong, 1, write_blocks, [(0, INFO), (1, MOST + 1)])
        self.check_raises(TooLong, 2, write_blocks, [(0, INFO), (1, MOST), (7, [3] * (MOST + 1))])
        self.check_raises(TooLong, 1, write_blocks, [(0, INFO), (1, 2 ** 40), (1, 3), (1, MOST + 1)])
        self.check_raises(TooLong, 1, write_blocks, [(0, INFO), (2, (1, [0] * (MOST - 3))), (1, MOST + 1)])

    def test_lengths_of_long_bodies(self):
        self.assertEqual(MOST + 1, body_length((1, MOST + 1)))
        self.assertEqual(2 ** 40, body_length((1, 2 ** 40)))
        self.assertEqual(MOST + 1, body_length((7, [0] * (MOST + 1))))
        self.assertEqual(MOST + 1, len(write_body((1, MOST + 1))))
        self.assertEqual(18 * 932068, body_length((3, [None] * 932068)))


class RegularTest(Case):
    def check(self, expected, blocks):
        self.assertIs(expected, self.unchanged(is_regular, blocks))

    def test_the_first_block(self):
        self.check(True, [(0, INFO)])
        self.check(False, [])
        self.check(False, [(1, 3)])
        self.check(False, [(1, 3), (0, INFO)])
        self.check(False, [(0, INFO), (0, INFO)])
        self.check(False, [(0, INFO), (1, 3), (0, INFO), (1, 4)])

    def test_seek_tables_and_comments(self):
        for kind, value in ((3, [None]), (3, []), (4, Comments([], []))):
            self.check(True, [(0, INFO), (kind, value)])
            self.check(False, [(0, INFO), (kind, value), (kind, value)])
            self.check(False, [(0, INFO), (kind, value), (1, 5), (7, []), (kind, value), (1, 5)])
        self.check(True, [(0, INFO), (3, []), (4, Comments([], []))])

    def test_pictures(self):
        for use in range(21):
            expected = use not in (1, 2)
            self.check(expected, [(0, INFO), (6, picture(use)), (6, picture(use, [5]))])
            self.check(expected, [(0, INFO), (6, picture(use)), (1, 5), (6, picture(3)), (6, picture(use))])
        self.check(True, [(0, INFO), (6, picture(1)), (6, picture(2)), (6, picture(0))])

    def test_other_kinds(self):
        for block, _ in KINDS:
            if block[0] not in (0, 3, 4):
                self.check(True, [(0, INFO), block, block, block])


class MarkerTest(Case):
    def test_a_marker(self):
        for before in ([], [0], [102, 76]):
            for behind in ([], [0], [102]):
                data = before + MARKER + behind
                self.assertEqual(len(before) + 4, self.unchanged(read_marker, data, len(before)))

    def test_other_bytes(self):
        for before in ([], [0], [102, 76]):
            for at in range(4):
                for byte in (0, 255, MARKER[at] ^ 32):
                    data = before + MARKER[:at] + [byte]
                    for behind in ([], MARKER[at + 1:], [0] * 9):
                        self.check_raises(NotAStream, len(before), read_marker, data + behind, len(before))
                        self.check_raises(NotAStream, len(before), read_blocks, data + behind, len(before))

    def test_a_marker_that_is_cut_off(self):
        for before in ([], [0], [102, 76]):
            for many in range(4):
                data = before + MARKER[:many]
                self.check_raises(Truncated, len(data), read_marker, data, len(before))
                self.check_raises(Truncated, len(data), read_blocks, data, len(before))


class BlockTest(Case):
    """Single blocks behind blocks that were read before."""

    def check(self, block, earlier):
        body = body_of(block)
        for last in (False, True):
            for before in ([], [255] * 5):
                for behind in ([], [0], [255] * 9):
                    data = before + head(block[0], len(body), last) + body + behind
                    result = self.unchanged(read_block, data, len(before), earlier)
                    self.assertIs(tuple, result.__class__)
                    self.assertEqual((block, last, len(before) + 4 + len(body)), result)
                    self.assertIs(bool, result[1].__class__)

    def test_blocks_behind_others(self):
        for block, _ in KINDS:
            if block[0] == 0:
                self.check(block, [])
                continue
            self.check(block, [(0, INFO)])
            for other, _ in KINDS:
                if other[0] != 0 and (block[0] not in (3, 4) or other[0] != block[0]):
                    self.check(block, [(0, INFO), other])

    def test_icons(self):
        for use in range(21):
            for others in ([], [3], [3, 3, 0], [1], [2], [1, 2]):
                earlier = [(0, INFO)] + [(6, picture(other)) for other in others]
                if use in (1, 2) and use in others:
                    data = [9] + head(6, len(write_picture(picture(use)))) + write_picture(picture(use))
                    self.check_raises(OutOfOrder, 1, read_block, data, 1, earlier)
                else:
                    self.check((6, picture(use)), earlier)


class WrongInputsTest(Case):
    """The table of point 18.4."""

    def check(self, kind, at, data, earlier):
        """Check the error of a block at the start of some bytes, wherever they stand."""
        for before in ([], [255, 0, 0, 1]):
            start = len(before)
            call = lambda *arguments: self.unchanged(read_block, *arguments)
            self.check_raises(kind, start + at, call, before + data, start, earlier)

    def check_blocks(self, kind, at, data):
        """Check the error of metadata, wherever it stands."""
        for before in ([], [102, 76, 97]):
            start = len(before)
            call = lambda *arguments: self.unchanged(read_blocks, *arguments)
            self.check_raises(kind, start + at, call, before + data, start)

    def test_blocks_at_the_end_of_the_byte_list(self):
        for many in range(4):
            for byte in (0, 127, 255):
                for earlier in ([], [(0, INFO)]):
                    self.check(Truncated, many, [byte] * many, earlier)

    def test_kind_127(self):
        for first in (127, 255):
            for length in (0, 1, MOST):
                for earlier in ([], [(0, INFO)], [(0, INFO), (3, []), (4, Comments([], []))]):
                    self.check(InvalidForm, 0, [first] + head(0, length)[1:], earlier)

    def test_kinds_that_are_out_of_order(self):
        for kind in list(range(1, 127)):
            for length in (0, 5, MOST):
                self.check(OutOfOrder, 0, head(kind, length), [])
        for earlier in ([(0, INFO)], [(0, INFO), (1, 3)], [(1, 3)]):
            for length in (0, 34, MOST):
                self.check(OutOfOrder, 0, head(0, length) + write_streaminfo(INFO), earlier)
        for kind, value in ((3, []), (4, Comments([], []))):
            for earlier in ([(0, INFO), (kind, value)], [(0, INFO), (1, 4), (kind, value), (7, [])]):
                for length in (0, 8, MOST):
                    self.check(OutOfOrder, 0, head(kind, length) + [0] * 8, earlier)

    def test_bodies_that_are_cut_off(self):
        for block, body in KINDS:
            earlier = [] if block[0] == 0 else [(0, INFO)]
            for many in sorted({0, 1, len(body) // 2, len(body) - 1} & set(range(len(body)))):
                data = head(block[0], len(body)) + body[:many]
                self.check(Truncated, len(data), data, earlier)
        self.check(Truncated, 9, head(1, MOST) + [1] * 5, [(0, INFO)])

    def test_invalid_bodies(self):
        info = [(0, INFO)]
        body = write_streaminfo(INFO)
        self.check(InvalidForm, 4, head(0, 33) + body[:33], [])
        self.check(InvalidForm, 4, head(0, 35) + body + [0], [])
        self.check(Disagreement, 6, head(0, 34) + [0, 17, 0, 16] + body[4:], [])
        self.check(InvalidForm, 6, head(1, 3) + [0, 0, 1, 0], info)
        self.check(InvalidForm, 4, head(2, 3) + [0, 0, 1, 0], info)
        self.check(InvalidForm, 4, head(3, 17) + [0] * 18, info)
        self.check(OutOfOrder, 22, head(3, 36) + [0] * 36, info)
        self.check(InvalidForm, 8, head(4, 4) + [0] * 8, info)
        self.check(InvalidText, 8, head(4, 9) + [1, 0, 0, 0, 255, 0, 0, 0, 0], info)
        self.check(InvalidForm, 4, head(5, 127) + [0] * 127, info)
        self.check(InvalidCueSheet, 4 + 395, head(5, 396) + [0] * 396, info)
        self.check(ReservedValue, 4, head(6, 4) + [0, 0, 0, 21], info)
        self.check(InvalidForm, 8, head(6, 4) + [0, 0, 0, 20], info)

    def test_a_body_that_goes_on_behind_its_length(self):
        # The bytes behind the body would make it right.
        for block, body in KINDS:
            if block[0] in (2, 4, 5, 6) and len(body) > 4:
                data = head(block[0], 3) + body
                self.check(InvalidForm, 4, data, [(0, INFO)])

    def test_a_second_icon(self):
        body = write_picture(picture(1))
        earlier = [(0, INFO), (6, picture(1))]
        self.check(OutOfOrder, 0, head(6, len(body)) + body, earlier)
        # The errors of the body come first.
        self.check(InvalidForm, 4 + len(body), head(6, len(body) + 1) + body + [0], earlier)
        self.check(Truncated, 3 + len(body), head(6, len(body)) + body[:-1], earlier)

    def test_two_rows_at_once(self):
        info = [(0, INFO)]
        # A head that is cut off before its kind, the kind before the order, the order before the body.
        self.check(Truncated, 3, [127, 0, 0], [])
        self.check(Truncated, 3, [0, 0, 0], info)
        self.check(InvalidForm, 0, head(127, 5), [])
        self.check(OutOfOrder, 0, head(0, 5), info)
        self.check(OutOfOrder, 0, head(0, 5) + [0] * 5, info)
        self.check(OutOfOrder, 0, head(3, 5) + [0] * 5, info + [(3, [])])
        self.check(Truncated, 8, head(3, 5) + [0] * 4, info)
        self.check(Truncated, 8, head(1, 5) + [1] * 4, info)

    def test_whole_metadata(self):
        first = MARKER + head(0, 34) + write_streaminfo(INFO)
        self.check_blocks(OutOfOrder, 4, MARKER + head(1, 0, True))
        self.check_blocks(InvalidForm, 4, MARKER + head(127, 0, True))
        self.check_blocks(OutOfOrder, 42, first + head(0, 34, True) + write_streaminfo(INFO))
        self.check_blocks(InvalidForm, 42, first + head(127, 0, True))
        self.check_blocks(OutOfOrder, 46, first + head(3, 0) + head(3, 0, True))
        body = write_comments(Comments([], []))
        self.check_blocks(OutOfOrder, 54, first + head(4, 8) + body + head(4, 8, True) + body)
        self.check_blocks(InvalidForm, 48, first + head(1, 3, True) + [0, 0, 1])
        icon = write_picture(picture(2))
        self.check_blocks(
            OutOfOrder, 46 + len(icon), first + head(6, len(icon)) + icon + head(6, len(icon), True) + icon
        )
        # The first block with a fault counts, though the last one has another fault.
        self.check_blocks(InvalidForm, 48, first + head(1, 3) + [0, 0, 1] + head(127, 0, True))
        self.check_blocks(NotAStream, 0, [102, 76, 97, 68] + head(127, 0, True))

    def test_metadata_that_is_cut_off(self):
        for blocks in LISTS[3:]:
            data = metadata(blocks)
            for cut in range(len(data)):
                self.check_raises(Truncated, cut, read_blocks, data[:cut])
            self.check_raises(Truncated, 50, read_blocks, [0, 0] + data[:48], 2)

    def test_metadata_without_a_last_block(self):
        data = metadata([(0, INFO), (7, [1, 2])])
        data[42] -= 128
        self.check_blocks(Truncated, len(data), data)

    def test_any_changed_byte_gives_one_of_the_errors_or_other_blocks(self):
        pick = picker(181)
        data = metadata(LISTS[3])
        allowed = (
            "NotAStream", "Truncated", "InvalidForm", "OutOfOrder", "Disagreement", "InvalidText", "InvalidCueSheet",
            "ReservedValue",
        )
        for at in range(len(data)):
            changed = list(data)
            changed[at] = pick.choice([byte for byte in range(256) if byte != data[at]])
            try:
                blocks, place = read_blocks(changed)
            except ValueError as error:
                self.assertIn(error.name, allowed)
                self.assertLessEqual(error.place, len(data))
            else:
                # A placeholder's offset and count are not kept, so the bytes may differ.
                self.assertEqual((blocks, place), read_blocks(write_blocks(blocks)))
