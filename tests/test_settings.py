"""Point 22.1: settings."""

from monochord.settings import Settings
from tests.support import Case

FULL = {
    "block_size": 4096, "block_sizes": [20, 16], "fixed_order": 3, "linear_order": 8, "search": True, "precision": 9,
    "partition_order": 6, "wide": True, "stereo": False, "wasted": False, "seek_interval": 44100, "vendor": "a vendor",
}


class SettingsTest(Case):
    def test_defaults(self):
        settings = Settings(16)
        expected = {
            "block_size": 16, "block_sizes": None, "fixed_order": 4, "linear_order": 0, "search": False,
            "precision": 12, "partition_order": 4, "wide": False, "stereo": True, "wasted": True, "seek_interval": 0,
            "vendor": "",
        }
        for name, value in expected.items():
            self.assertEqual(value, getattr(settings, name), name)
            self.assertIs(value.__class__, getattr(settings, name).__class__, name)
        self.assertIs(True, Settings(16) == Settings(**expected))

    def test_both_ends_of_each_bound(self):
        ends = {
            "block_size": (16, 65535), "block_sizes": (None, [16], [65535], [16, 65535] * 50), "fixed_order": (0, 4),
            "linear_order": (0, 32), "search": (False, True), "precision": (5, 15), "partition_order": (0, 15),
            "wide": (False, True), "stereo": (False, True), "wasted": (False, True),
            "seek_interval": (0, 1, 10 ** 12), "vendor": ("", " ", "~", "a" * 1000),
        }
        for name, values in ends.items():
            for value in values:
                settings = Settings(**{**FULL, name: value})
                for other, expected in {**FULL, name: value}.items():
                    self.assertEqual(expected, getattr(settings, other))

    def test_equality(self):
        changes = (
            ("block_size", 4097), ("block_sizes", [16, 20]), ("block_sizes", [20]), ("block_sizes", None),
            ("block_sizes", [20, 16, 20]), ("fixed_order", 4), ("linear_order", 7), ("search", False),
            ("precision", 10), ("partition_order", 5), ("wide", False), ("stereo", True), ("wasted", True),
            ("seek_interval", 0), ("vendor", ""), ("vendor", "A vendor"),
        )
        self.check_equality(Settings, FULL, changes)

    def test_the_list_is_copied(self):
        sizes = [20, 16]
        settings = Settings(16, block_sizes=sizes)
        sizes.append(30)
        sizes[0] = 99
        self.assertEqual([20, 16], settings.block_sizes)
        settings.block_sizes.append(5)
        self.assertEqual([99, 16, 30], sizes)

    def test_only_the_block_size_is_passed_by_position(self):
        with self.assertRaises(TypeError):
            Settings(16, [20])
        with self.assertRaises(TypeError):
            Settings()
