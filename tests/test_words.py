"""Numbers of whole bytes, which several chapters use."""

from monochord.errors import InvalidForm
from monochord.words import big_bytes, big_number, check_inside, little_bytes, little_number
from tests.support import Case, picker


class WordsTest(Case):
    def test_bytes(self):
        self.assertEqual([1, 2, 3], big_bytes(0x010203, 3))
        self.assertEqual([3, 2, 1, 0], little_bytes(0x010203, 4))
        pick = picker(161)
        for count in range(1, 9):
            for number in (0, 1, 255, 256 ** count - 1, pick.randrange(256 ** count)):
                if number < 256 ** count:
                    self.assertEqual(list(number.to_bytes(count, "big")), big_bytes(number, count))
                    self.assertEqual(list(number.to_bytes(count, "little")), little_bytes(number, count))

    def test_numbers(self):
        data = [9, 1, 2, 3, 200, 7]
        self.assertEqual(0x010203, self.unchanged(big_number, data, 1, 3))
        self.assertEqual(0x030201, self.unchanged(little_number, data, 1, 3))
        self.assertEqual(200, big_number(data, 4, 1))
        self.assertEqual(200, little_number(data, 4, 1))

    def test_fields_that_exceed_a_body(self):
        for place in range(5):
            self.assertIsNone(check_inside(place, 5 - place, 5))
            self.check_raises(InvalidForm, place, check_inside, place, 6 - place, 5)
