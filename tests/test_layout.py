"""Points 22.2 to 22.4: dividing audio into blocks."""

from monochord.layout import block_sizes, block_starts, size_range
from monochord.settings import Settings
from tests.support import Case, picker


class LayoutTest(Case):
    def sizes(self, length, settings):
        """The sizes of the blocks, after checks of what holds for all of them."""
        sizes = self.unchanged(block_sizes, length, settings)
        self.assertIs(list, sizes.__class__)
        self.assertEqual(length, sum(sizes))
        self.assertTrue(all(size > 0 for size in sizes))
        return sizes

    def test_one_size(self):
        for size in (16, 100, 65535):
            settings = Settings(size)
            self.assertEqual([], self.sizes(0, settings))
            self.assertEqual([1], self.sizes(1, settings))
            self.assertEqual([size - 1], self.sizes(size - 1, settings))
            self.assertEqual([size], self.sizes(size, settings))
            self.assertEqual([size, 1], self.sizes(size + 1, settings))
            self.assertEqual([size, size], self.sizes(2 * size, settings))
            self.assertEqual([size] * 5 + [size - 1], self.sizes(6 * size - 1, settings))

    def test_a_list_with_one_size(self):
        settings = Settings(16, block_sizes=[30])
        self.assertEqual([], self.sizes(0, settings))
        self.assertEqual([29], self.sizes(29, settings))
        self.assertEqual([30], self.sizes(30, settings))
        self.assertEqual([30, 30, 7], self.sizes(67, settings))

    def test_a_list_that_begins_again(self):
        settings = Settings(1000, block_sizes=[20, 16, 40])
        cases = {
            0: [], 19: [19], 20: [20], 21: [20, 1], 36: [20, 16], 75: [20, 16, 39], 76: [20, 16, 40],
            77: [20, 16, 40, 1], 96: [20, 16, 40, 20], 97: [20, 16, 40, 20, 1],
            160: [20, 16, 40, 20, 16, 40, 8],
        }
        for length, expected in cases.items():
            self.assertEqual(expected, self.sizes(length, settings))
        self.assertEqual([20, 16, 20, 4], self.sizes(60, Settings(16, block_sizes=[20, 16])))

    def test_starts(self):
        self.assertEqual([], self.unchanged(block_starts, []))
        self.assertEqual([0], self.unchanged(block_starts, [5]))
        self.assertEqual([0, 20, 36, 56], self.unchanged(block_starts, [20, 16, 20, 4]))
        pick = picker(222)
        for _ in range(50):
            sizes = [pick.randint(1, 65535) for _ in range(pick.randint(0, 12))]
            self.assertEqual([sum(sizes[:at]) for at in range(len(sizes))], block_starts(sizes))


class RangeTest(Case):
    def range(self, length, settings):
        """The smallest and the largest size."""
        told = self.unchanged(size_range, length, settings)
        self.assertIs(tuple, told.__class__)
        return told

    def test_one_size(self):
        for length in (0, 1, 15, 16, 17, 100):
            self.assertEqual((16, 16), self.range(length, Settings(16)))
            self.assertEqual((65535, 65535), self.range(length, Settings(65535)))

    def test_less_than_two_blocks(self):
        settings = Settings(100, block_sizes=[30, 16, 50])
        for length in (0, 1, 29, 30):
            self.assertEqual((30, 30), self.range(length, settings))

    def test_two_blocks_and_more(self):
        settings = Settings(100, block_sizes=[30, 16, 50])
        # The last block is the smallest one, neither, or the largest one.
        self.assertEqual((30, 30), self.range(31, settings))
        self.assertEqual((30, 30), self.range(46, settings))
        self.assertEqual((16, 30), self.range(47, settings))
        self.assertEqual((16, 30), self.range(70, settings))
        self.assertEqual((16, 30), self.range(76, settings))
        self.assertEqual((16, 31), self.range(77, settings))
        self.assertEqual((16, 50), self.range(96, settings))
        self.assertEqual((16, 50), self.range(97, settings))
        self.assertEqual((20, 20), self.range(21, Settings(16, block_sizes=[20, 40])))
        self.assertEqual((20, 40), self.range(60, Settings(16, block_sizes=[20, 40])))
        self.assertEqual((20, 40), self.range(61, Settings(16, block_sizes=[20, 40])))
        self.assertEqual((16, 20), self.range(60, Settings(16, block_sizes=[20, 16])))

    def test_one_size_in_a_list(self):
        for length in (0, 5, 30, 31, 60, 1000):
            self.assertEqual((30, 30), self.range(length, Settings(16, block_sizes=[30])))

    def test_against_the_words(self):
        pick = picker(223)
        for _ in range(300):
            settings = Settings(16, block_sizes=[pick.randint(16, 60) for _ in range(pick.randint(1, 4))])
            length = pick.randint(0, 200)
            sizes = block_sizes(length, settings)
            if len(sizes) < 2:
                expected = (settings.block_sizes[0],) * 2
            else:
                least = min(sizes[:-1])
                expected = (least, max(max(sizes), least))
            self.assertEqual(expected, self.range(length, settings))
