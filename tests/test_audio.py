"""Chapter 00: audio, and what is equal to what."""

from monochord.audio import Audio
from tests.support import Case


class LookAlike:
    """A value of another class with the attributes of an Audio."""

    def __init__(self, rate, depth, channels):
        self.rate = rate
        self.depth = depth
        self.channels = channels


class AudioTest(Case):
    def test_attributes(self):
        audio = self.unchanged(Audio, 44100, 16, [[1, -2], [3, 4]])
        self.assertEqual((44100, 16, [[1, -2], [3, 4]]), (audio.rate, audio.depth, audio.channels))

    def test_attributes_at_the_bounds(self):
        for rate in (0, 1048575):
            for depth in (4, 32):
                for count in (1, 8):
                    low, high = -(1 << (depth - 1)), (1 << (depth - 1)) - 1
                    audio = Audio(rate, depth, [[low, high]] * count)
                    self.assertEqual((rate, depth, [[low, high]] * count), (audio.rate, audio.depth, audio.channels))

    def test_lists_are_copied_at_both_levels(self):
        channels = [[1, 2], [3, 4]]
        audio = Audio(8000, 8, channels)
        channels[0].append(9)
        channels[1][0] = 9
        channels.append([5, 6])
        self.assertEqual([[1, 2], [3, 4]], audio.channels)

    def test_changes_of_the_audio_do_not_reach_the_lists_that_were_passed(self):
        channels = [[1, 2], [3, 4]]
        audio = Audio(8000, 8, channels)
        audio.channels[0][0] = 9
        audio.channels.pop()
        self.assertEqual([[1, 2], [3, 4]], channels)

    def test_equal_channels_are_separate_lists(self):
        row = [1, 2]
        audio = Audio(8000, 8, [row, row])
        audio.channels[0].append(3)
        self.assertEqual([[1, 2, 3], [1, 2]], audio.channels)

    def test_length(self):
        for length in (0, 1, 2, 100):
            for count in range(1, 9):
                self.assertEqual(length, Audio(8000, 8, [[0] * length] * count).length())

    def test_length_without_a_channel(self):
        self.assertEqual(0, Audio(8000, 8, []).length())

    def test_rows(self):
        audio = Audio(8000, 8, [[0, 1, 2, 3, 4], [5, 6, 7, 8, 9]])
        self.assertEqual([[1, 2], [6, 7]], audio.rows(1, 3))
        self.assertEqual([[0, 1, 2, 3, 4], [5, 6, 7, 8, 9]], audio.rows(0, 5))
        self.assertEqual([[4], [9]], audio.rows(4, 5))
        for at in range(6):
            self.assertEqual([[], []], audio.rows(at, at))

    def test_rows_of_empty_audio(self):
        self.assertEqual([[], [], []], Audio(8000, 8, [[], [], []]).rows(0, 0))

    def test_rows_are_new_lists(self):
        audio = Audio(8000, 8, [[1, 2], [3, 4]])
        rows = audio.rows(0, 2)
        rows[0].append(9)
        rows[1][0] = 9
        rows.pop()
        self.assertEqual([[1, 2], [3, 4]], audio.channels)
        self.assertEqual([[1, 2], [3, 4]], audio.rows(0, 2))

    def test_equal_audio(self):
        self.assertEqual(Audio(8000, 8, [[1, 2], [3, 4]]), Audio(8000, 8, [[1, 2], [3, 4]]))
        self.assertIs(True, Audio(8000, 8, [[]]) == Audio(8000, 8, [[]]))
        self.assertIs(False, Audio(8000, 8, [[]]) != Audio(8000, 8, [[]]))

    def test_audio_with_one_difference(self):
        audio = Audio(8000, 8, [[1, 2], [3, 4]])
        others = (
            Audio(8001, 8, [[1, 2], [3, 4]]),
            Audio(8000, 9, [[1, 2], [3, 4]]),
            Audio(8000, 8, [[1, 2], [3, 5]]),
            Audio(8000, 8, [[3, 4], [1, 2]]),
            Audio(8000, 8, [[1, 2]]),
            Audio(8000, 8, [[1], [3]]),
            Audio(8000, 8, [[1, 2], [3, 4], [5, 6]]),
        )
        for other in others:
            with self.subTest((other.rate, other.depth, other.channels)):
                self.assertIs(False, audio == other)
                self.assertIs(True, audio != other)

    def test_audio_is_equal_to_no_value_of_another_class(self):
        channels = [[1, 2]]
        audio = Audio(8000, 8, channels)
        others = (
            None, 0, 8000, "", "Audio", channels, (8000, 8, channels), {"rate": 8000}, Audio,
            LookAlike(8000, 8, channels),
        )
        for other in others:
            with self.subTest(other):
                self.assertIs(False, audio == other)
                self.assertIs(False, other == audio)
                self.assertIs(True, audio != other)

    def test_comparing_changes_nothing(self):
        one, two = Audio(8000, 8, [[1, 2]]), Audio(8000, 8, [[1, 3]])
        self.assertFalse(one == two)
        self.assertEqual(([[1, 2]], [[1, 3]]), (one.channels, two.channels))
