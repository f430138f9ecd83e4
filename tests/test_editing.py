"""Chapter 28: editing metadata."""

from monochord.audio import Audio
from monochord.blocks import is_regular, read_blocks, write_blocks
from monochord.comments import Comments
from monochord.decoder import decode
from monochord.editing import apply_act, edit, frame_bytes, metadata_length
from monochord.encoder import encode
from monochord.errors import InvalidEdit, InvalidForm, NotAStream, Truncated
from monochord.picture import Picture
from monochord.seeking import find_frame, start_point
from monochord.settings import Settings
from tests.streams import BLOCKS, info_of, stream_of
from tests.support import Case, picker

MOST = 16777215
INFO = (0, info_of())
OTHER = (0, info_of(rate=5))
COMMENTS = (4, Comments([86], [([65], [1]), ([66], [2]), ([97], [3])]))
TABLE = (3, [(0, 0, 16), None])


def icon(use):
    """A block of a picture."""
    return (6, Picture(use, [97], [], 1, 2, 24, 0, [9]))


def stored(blocks):
    """The number of bytes of some metadata."""
    return len(write_blocks(blocks))


class ActTest(Case):
    BLOCKS = [INFO, (1, 5), COMMENTS, (7, [1, 2])]

    def check(self, expected, blocks, act):
        """Check the blocks that an act gives."""
        self.assertTrue(is_regular(blocks))
        result = self.unchanged(apply_act, blocks, act)
        self.assertEqual(expected, result)
        self.assertIs(list, result.__class__)
        self.assertIsNot(blocks, result)

    def impossible(self, blocks, *acts):
        """Check that none of some acts is possible."""
        for act in acts:
            with self.subTest(act):
                self.check_raises(InvalidEdit, 0, apply_act, list(blocks), act)
                data = write_blocks(blocks)
                self.check_raises(InvalidEdit, 0, edit, data, [act])
                self.check_raises(InvalidEdit, 2, edit, data, [("insert", 1, (9, [])), ("remove", 1), act, act])

    def test_insert(self):
        a, b, c, d = self.BLOCKS
        new = (8, [7])
        self.check([a, new, b, c, d], self.BLOCKS, ("insert", 1, new))
        self.check([a, b, new, c, d], self.BLOCKS, ("insert", 2, new))
        self.check([a, b, c, new, d], self.BLOCKS, ("insert", 3, new))
        self.check([a, b, c, d, new], self.BLOCKS, ("insert", 4, new))
        self.check([a, new], [a], ("insert", 1, new))
        self.impossible(self.BLOCKS, *[("insert", index, new) for index in (0, 5, 6, -1, -2, -4, 1000)])
        self.impossible([a], *[("insert", index, new) for index in (0, 2, -1)])

    def test_remove(self):
        a, b, c, d = self.BLOCKS
        self.check([a, c, d], self.BLOCKS, ("remove", 1))
        self.check([a, b, d], self.BLOCKS, ("remove", 2))
        self.check([a, b, c], self.BLOCKS, ("remove", 3))
        self.impossible(self.BLOCKS, *[("remove", index) for index in (0, 4, 5, -1, -3, -4)])
        self.impossible([a], *[("remove", index) for index in (0, 1, -1)])

    def test_replace(self):
        a, b, c, d = self.BLOCKS
        new = (8, [7])
        self.check([a, new, c, d], self.BLOCKS, ("replace", 1, new))
        self.check([a, b, new, d], self.BLOCKS, ("replace", 2, new))
        self.check([a, b, c, new], self.BLOCKS, ("replace", 3, new))
        self.check([a, b, (4, Comments([], [])), d], self.BLOCKS, ("replace", 2, (4, Comments([], []))))
        self.impossible(self.BLOCKS, *[("replace", index, new) for index in (0, 4, 5, -1, -3, -4)])
        self.impossible(self.BLOCKS, ("replace", 0, OTHER), ("replace", 0, INFO))
        self.impossible([a], *[("replace", index, new) for index in (0, 1, -1)])

    def test_move(self):
        a, b, c, d = self.BLOCKS
        for index, target, expected in (
            (1, 1, [a, b, c, d]), (1, 2, [a, c, b, d]), (1, 3, [a, c, d, b]), (2, 1, [a, c, b, d]),
            (2, 2, [a, b, c, d]), (2, 3, [a, b, d, c]), (3, 1, [a, d, b, c]), (3, 2, [a, b, d, c]),
            (3, 3, [a, b, c, d]),
        ):
            self.check(expected, self.BLOCKS, ("move", index, target))
        self.check([a, b], [a, b], ("move", 1, 1))
        wrong = [("move", index, target) for index in (0, 4, -1, -3) for target in (1, 3)]
        wrong += [("move", index, target) for index in (1, 3) for target in (0, 4, 5, -1, -3)]
        self.impossible(self.BLOCKS, *wrong)
        self.impossible([a, b], ("move", 1, 2), ("move", 1, 0), ("move", 2, 1), ("move", 0, 1))
        self.impossible([a], ("move", 1, 1), ("move", 0, 0), ("move", 0, 1))

    def test_tag(self):
        a, b, _, d = self.BLOCKS
        for name, values, entries in (
            ([65], [[5]], [([65], [5]), ([66], [2])]), ([97], [[5], [6]], [([97], [5]), ([97], [6]), ([66], [2])]),
            ([66], [], [([65], [1]), ([97], [3])]), ([67], [[8]], [([65], [1]), ([66], [2]), ([97], [3]), ([67], [8])]),
            ([67], [], [([65], [1]), ([66], [2]), ([97], [3])]), ([65], [], [([66], [2])]),
        ):
            self.check([a, b, (4, Comments([86], entries)), d], self.BLOCKS, ("tag", name, values))

    def test_tag_without_comments(self):
        a, b, d = INFO, (1, 5), (7, [1, 2])
        for values, entries in (([], []), ([[5]], [([65], [5])]), ([[5], []], [([65], [5]), ([65], [])])):
            block = (4, Comments([], entries))
            self.check([a, block, b, d], [a, b, d], ("tag", [65], values))
            self.check([a, block], [a], ("tag", [65], values))

    def test_lists_that_are_not_regular(self):
        a = INFO
        for one, other in ((TABLE, (3, [])), (COMMENTS, (4, Comments([], []))), (icon(1), icon(1)), (icon(2), icon(2))):
            self.impossible([a, one, (1, 2)], ("insert", 1, other), ("insert", 3, other), ("replace", 2, other))
            self.check([a, other, (1, 2)], [a, one, (1, 2)], ("replace", 1, other))
        self.impossible([a, (1, 2)], ("insert", 1, OTHER), ("insert", 2, INFO), ("replace", 1, OTHER))
        for one, other in ((icon(1), icon(2)), (icon(3), icon(3)), (icon(0), icon(0)), ((1, 2), (1, 2))):
            self.check([a, one, other], [a, one], ("insert", 2, other))

    def test_long_blocks(self):
        a = INFO
        fitting, beyond = (1, MOST), (1, MOST + 1)
        self.check([a, fitting], [a], ("insert", 1, fitting))
        self.check([a, fitting], [a, (7, [])], ("replace", 1, fitting))
        for act in (("insert", 1, beyond), ("replace", 1, beyond), ("insert", 2, (1, 2 ** 40))):
            self.check_raises(InvalidEdit, 0, apply_act, [a, (7, [])], act)
        table = (3, [None] * 932067)
        self.check_raises(InvalidEdit, 0, apply_act, [a], ("insert", 1, (3, [None] * 932068)))
        self.assertEqual([a, table], apply_act([a], ("insert", 1, table)))
        # A body with a name of one sign and nothing else has 4 + 4 + 4 + 2 bytes besides the value.
        for length, possible in ((MOST - 14, True), (MOST - 13, False)):
            for blocks in ([a], [a, (4, Comments([], []))]):
                act = ("tag", [65], [[66] * length])
                if possible:
                    self.assertEqual([(4, Comments([], [([65], [66] * length)]))], apply_act(blocks, act)[1:])
                else:
                    self.check_raises(InvalidEdit, 0, apply_act, blocks, act)

    def test_blocks_that_an_act_does_not_bring_may_be_long(self):
        long = (1, MOST + 5)
        self.check([INFO, (7, []), long], [INFO, long, (7, [])], ("move", 1, 2))
        self.check([INFO, long], [INFO, long, (7, [])], ("remove", 2))
        self.check([INFO, (7, [1]), long], [INFO, long], ("insert", 1, (7, [1])))


class EditCase(Case):
    def check(self, data, acts, expected, reserve=None):
        """Check an edited stream."""
        blocks, place = read_blocks(data)
        edited = self.unchanged(edit, data, acts, reserve) if reserve is not None else self.unchanged(edit, data, acts)
        self.assertEqual(write_blocks(expected) + data[place:], edited)
        self.assertTrue(decode(edited).audio == decode(data).audio)
        self.assertEqual(decode(data).fault is None, decode(edited).fault is None)
        self.assertEqual(self.unchanged(frame_bytes, data), frame_bytes(edited))
        self.assertEqual(place, self.unchanged(metadata_length, data))
        self.assertEqual(stored(expected), metadata_length(edited))
        return edited


class EditTest(EditCase):
    def test_no_act(self):
        for blocks in ([], list(BLOCKS), [TABLE]):
            data = stream_of([16, 5], blocks=blocks)[0]
            self.check(data, [], [INFO, *blocks])
            self.assertEqual(data, edit(data, []))
            self.assertIsNot(data, edit(data, []))

    def test_acts_one_after_the_other(self):
        data = stream_of([16, 5], blocks=[(1, 5), (7, [1])])[0]
        acts = [
            ("insert", 3, (8, [2])), ("remove", 1), ("move", 2, 1), ("replace", 2, (9, [])), ("tag", [65], [[66]]),
            ("tag", [97], [[67], [68]]), ("insert", 1, (1, 0)),
        ]
        expected = [
            [INFO, (1, 5), (7, [1]), (8, [2])], [INFO, (7, [1]), (8, [2])], [INFO, (8, [2]), (7, [1])],
            [INFO, (8, [2]), (9, [])], [INFO, (4, Comments([], [([65], [66])])), (8, [2]), (9, [])],
            [INFO, (4, Comments([], [([97], [67]), ([97], [68])])), (8, [2]), (9, [])],
            [INFO, (1, 0), (4, Comments([], [([97], [67]), ([97], [68])])), (8, [2]), (9, [])],
        ]
        for many in range(len(acts) + 1):
            self.check(data, acts[:many], ([[INFO, (1, 5), (7, [1])]] + expected)[many])

    def test_the_place_of_an_act_that_is_not_possible(self):
        data = stream_of([16], blocks=[(1, 5)])[0]
        good = ("insert", 1, (7, []))
        for at in range(4):
            for wrong in (("remove", 0), ("insert", 9, (7, [])), ("insert", 1, OTHER), ("move", 1, 0)):
                self.check_raises(InvalidEdit, at, edit, data, [good] * at + [wrong] + [good, wrong])
                self.check_raises(InvalidEdit, at, edit, data, [good] * at + [wrong], 5)

    def test_the_errors_of_the_metadata_come_first(self):
        data = stream_of([16], blocks=[(1, 5)])[0]
        for wrong, kind, place in (
            ([], Truncated, 0), (data[:45], Truncated, 45), ([1] + data[1:], NotAStream, 0),
            (data[:48] + [9] + data[49:], InvalidForm, 48),
        ):
            self.check_raises(kind, place, edit, wrong, [("remove", 0)])
            self.check_raises(kind, place, edit, wrong, [], 7)
            self.check_raises(kind, place, metadata_length, wrong)
            self.check_raises(kind, place, frame_bytes, wrong)

    def test_the_bytes_behind_the_metadata_are_not_read(self):
        data = write_blocks([INFO, (1, 3)]) + [1, 2, 3]
        self.assertEqual(write_blocks([INFO]) + [1, 2, 3], edit(data, [("remove", 1)]))
        self.assertEqual([1, 2, 3], frame_bytes(data))
        self.assertEqual(len(data) - 3, metadata_length(data))
        self.assertEqual([], frame_bytes(data[:-3]))
        told = frame_bytes(data)
        told.append(5)
        self.assertEqual([1, 2, 3], data[-3:])

    def test_seek_points_stay_right(self):
        audio = Audio(8000, 8, [[at % 60 for at in range(200)]])
        data = encode(audio, Settings(16, seek_interval=30), [(1, 9)])
        table = read_blocks(data)[0][1]
        for acts in ([("insert", 1, (1, 1000))], [("remove", 2)], [("move", 1, 2)], [("tag", [65], [[66] * 300])]):
            for reserve in (None, 0, 500):
                edited = edit(data, acts, reserve)
                self.assertIsNone(decode(edited).fault)
                self.assertTrue(audio == decode(edited).audio)
                self.assertIn(table, read_blocks(edited)[0])
                shift = len(edited) - len(data)
                for sample in range(0, 200, 13):
                    place, first = start_point(data, sample)
                    self.assertEqual((place + shift, first), start_point(edited, sample))
                    self.assertEqual(find_frame(data, sample)[1:], find_frame(edited, sample)[1:])


class ReserveTest(EditCase):
    def test_no_change_of_the_other_blocks(self):
        # All padding becomes one block, where there is any.
        for blocks, gap in (
            ([], 0), ([(1, 0)], 4), ([(1, 9)], 13), ([(1, 3), (7, [1]), (1, 0), (1, 20)], 35), ([(7, [1]), (1, 2)], 6),
        ):
            others = [block for block in blocks if block[0] != 1]
            padding = [(1, gap - 4)] if gap else []
            data = stream_of([16, 5], blocks=blocks)[0]
            for reserve in (0, 5, MOST):
                edited = self.check(data, [], [INFO, *others, *padding], reserve)
                self.assertEqual(len(data), len(edited))

    def test_each_gap(self):
        # The block of 40 bytes gets longer or shorter.
        for gap in (-300, -5, -4, -1, 0, 1, 2, 3, 4, 5, 30):
            for reserve in (0, 1, 77):
                data = stream_of([16], blocks=[(7, [1] * 40), (126, [])])[0]
                new = (7, [2] * (40 - gap))
                if gap == 0:
                    padding = []
                elif gap >= 4:
                    padding = [(1, gap - 4)]
                else:
                    padding = [(1, reserve)]
                self.check(data, [("replace", 1, new)], [INFO, new, (126, []), *padding], reserve)

    def test_padding_of_the_acts_counts_as_well(self):
        data = stream_of([16], blocks=[(7, [1] * 40)])[0]
        self.check(data, [("insert", 1, (1, 500))], [INFO, (7, [1] * 40)], 9)
        self.check(data, [("insert", 1, (1, 500)), ("remove", 2)], [INFO, (1, 40)], 9)
        self.check(data, [("insert", 1, (1, 5)), ("insert", 1, (8, [1]))], [INFO, (8, [1]), (7, [1] * 40), (1, 9)], 9)

    def test_padding_is_used_up(self):
        data = stream_of([16], blocks=[(1, 100)])[0]
        for length, padding in ((0, [(1, 96)]), (90, [(1, 6)]), (96, [(1, 0)]), (97, [(1, 33)]), (99, [(1, 33)]),
                                (100, []), (101, [(1, 33)])):
            new = (7, [3] * length)
            self.check(data, [("insert", 1, new)], [INFO, new, *padding], 33)

    def test_a_gap_that_is_too_large_for_one_block(self):
        blocks = [INFO, (1, MOST), (1, 10)]
        data = write_blocks(blocks)
        self.assertEqual(write_blocks([INFO, (1, MOST)]), edit(data, [], 0))
        data = write_blocks([INFO, (1, MOST), (7, [])])
        self.assertEqual(write_blocks([INFO, (7, []), (1, MOST)]), edit(data, [], 0))

    def test_the_reserve_itself(self):
        data = stream_of([16])[0]
        edited = edit(data, [("insert", 1, (7, []))], MOST)
        self.assertEqual(MOST, read_blocks(edited)[0][2][1])
        self.assertEqual(len(data) + 4 + 4 + MOST, len(edited))

    def test_any_acts(self):
        pick = picker(281)
        for _ in range(200):
            blocks = [(1, pick.randint(0, 9)) if pick.random() < 0.5 else (7, [1] * pick.randint(0, 9))
                      for _ in range(pick.randint(0, 4))]
            data = stream_of([16], blocks=blocks)[0]
            new = (8, [2] * pick.randint(0, 20))
            acts = [("insert", pick.randint(1, len(blocks) + 1), new)]
            listed = [INFO, *blocks]
            listed.insert(acts[0][1], new)
            kept = [block for block in listed if block[0] != 1]
            gap = stored([INFO, *blocks]) - stored(kept)
            padding = [] if gap == 0 else [(1, gap - 4 if gap >= 4 else 6)]
            self.check(data, acts, kept + padding, 6)
            self.check(data, acts, listed)
