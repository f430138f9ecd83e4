"""Points 15.3 to 15.6: comments."""

from monochord.comments import Comments, read_comments, write_comments
from monochord.errors import InvalidForm, InvalidText
from monochord.text import points_of
from tests.support import Case, picker

FULL = {
    "vendor": [86, 233], "entries": [([84, 73], [1, 2, 65536]), ([116, 105], []), ([65], [61, 0])],
}


def length(number):
    """A length in four bytes."""
    return list(number.to_bytes(4, "little"))


def texted(text):
    """The bytes of a text."""
    return list("".join([chr(point) for point in text]).encode("utf-8"))


def with_length(content):
    """Some bytes behind their number."""
    return length(len(content)) + content


def body_of(vendor, entries):
    """The body of comments, by point 15.5."""
    body = with_length(texted(vendor)) + length(len(entries))
    for name, value in entries:
        body += with_length(list(name) + [61] + texted(value))
    return body


def raw_body(vendor, entries):
    """The body of comments of a vendor and entries that are given as bytes, which may be wrong."""
    body = with_length(vendor) + length(len(entries))
    for entry in entries:
        body += with_length(entry)
    return body


LISTS = (
    ([], []),
    (points_of("monochord"), []),
    ([], [(points_of("TITLE"), points_of("One"))]),
    ([86], [([65], []), ([66], [61]), ([67], [61, 61, 0])]),
    ([0, 127, 128, 2047, 2048, 55295, 57344, 65535, 65536, 1114111],
     [([32], [0, 127, 128, 2047, 2048, 55295, 57344, 65535, 65536, 1114111]), ([126], [1114111]), ([65], [])]),
    ([], [(list(range(32, 61)) + list(range(62, 127)), [10, 9, 0])]),
    (points_of("v" * 300), [(points_of("n" * 70000), points_of("w" * 70000))] * 2),
    ([], [([65], [1])] * 300),
)


class CommentsTest(Case):
    def test_equality(self):
        changes = (
            ("vendor", []), ("vendor", [86, 234]), ("entries", []), ("entries", FULL["entries"][:2]),
            ("entries", FULL["entries"][::-1]), ("entries", [([84, 73], [1, 2, 65537])] + FULL["entries"][1:]),
            ("entries", [([84, 74], [1, 2, 65536])] + FULL["entries"][1:]),
        )
        self.check_equality(Comments, FULL, changes)

    def test_names_in_another_case_are_not_equal(self):
        self.assertIs(False, Comments([], [([65], [1])]) == Comments([], [([97], [1])]))

    def test_the_lists_are_copied(self):
        vendor, name, value = [86], [65], [1, 2]
        entries = [(name, value)]
        comments = Comments(vendor, entries)
        vendor.append(7)
        name.append(66)
        value[0] = 9
        entries.append(([67], [3]))
        self.assertEqual([86], comments.vendor)
        self.assertEqual([([65], [1, 2])], comments.entries)
        self.assertIs(tuple, comments.entries[0].__class__)

    def test_what_is_passed_is_not_changed_by_the_object(self):
        vendor, name, value = [86], [65], [1, 2]
        comments = Comments(vendor, [(name, value)])
        comments.vendor.append(1)
        comments.entries[0][0].append(1)
        comments.entries[0][1].append(1)
        self.assertEqual(([86], [65], [1, 2]), (vendor, name, value))


class ValuesOfTest(Case):
    def setUp(self):
        self.comments = Comments([86], [([97, 66], [1]), ([66], [2]), ([65, 98], [3]), ([65, 66], []), ([65], [5])])

    def check(self, expected, name):
        before = Comments(self.comments.vendor, self.comments.entries)
        self.assertEqual(expected, self.unchanged(self.comments.values_of, name))
        self.assertTrue(before == self.comments)

    def test_names_in_both_cases(self):
        for name in ("ab", "AB", "aB", "Ab"):
            self.check([[1], [3], []], points_of(name))
        for name in ("b", "B"):
            self.check([[2]], points_of(name))
        for name in ("a", "A"):
            self.check([[5]], points_of(name))

    def test_no_matching_entry(self):
        for name in ("c", "abc", "ba", "a b", "[", "{"):
            self.check([], points_of(name))
        self.comments = Comments([], [])
        self.check([], [65])

    def test_only_letters_have_two_cases(self):
        # The characters from 64 to 96 and from 96 to 128 beside the letters.
        signs = [32, 48, 64, 91, 93, 96, 123, 125, 126]
        self.comments = Comments([], [([sign], [sign]) for sign in signs])
        for sign in signs:
            self.check([[sign]], [sign])
        for number in range(97, 123):
            self.comments = Comments([], [([number], [1]), ([number - 32], [2])])
            self.check([[1], [2]], [number])
            self.check([[1], [2]], [number - 32])

    def test_new_lists(self):
        values = self.comments.values_of([65, 66])
        values[0].append(9)
        values.pop()
        self.assertEqual([[1], [3], []], self.comments.values_of([65, 66]))


class WithValuesTest(Case):
    def check(self, expected, entries, name, values):
        """Check the entries of new comments, and that the old ones stay the same."""
        comments = Comments([86], entries)
        before = Comments([86], entries)
        result = self.unchanged(comments.with_values, name, values)
        self.assertIs(Comments, result.__class__)
        self.assertEqual(expected, result.entries)
        self.assertEqual([86], result.vendor)
        self.assertTrue(before == comments)

    def test_no_matching_entry(self):
        entries = [([66], [2]), ([67], [3])]
        self.check(entries, entries, [65], [])
        self.check(entries + [([97], [9])], entries, [97], [[9]])
        self.check(entries + [([65], [9]), ([65], [])], entries, [65], [[9], []])
        self.check([([65], [9])], [], [65], [[9]])
        self.check([], [], [65], [])

    def test_one_matching_entry(self):
        entries = [([66], [2]), ([65], [1]), ([67], [3])]
        for name in ([97], [65]):
            self.check([([66], [2]), ([67], [3])], entries, name, [])
            self.check([([66], [2]), (name, [9]), ([67], [3])], entries, name, [[9]])
            self.check([([66], [2]), (name, [9]), (name, [8]), ([67], [3])], entries, name, [[9], [8]])

    def test_several_matching_entries(self):
        entries = [([66], [2]), ([65], [1]), ([67], [3]), ([97], [4]), ([68], [5]), ([65], [6])]
        kept = [([67], [3]), ([68], [5])]
        for name in ([97], [65]):
            self.check([([66], [2])] + kept, entries, name, [])
            self.check([([66], [2]), (name, [9])] + kept, entries, name, [[9]])
            self.check([([66], [2]), (name, [9]), (name, []), (name, [9])] + kept, entries, name, [[9], [], [9]])

    def test_a_matching_entry_at_the_start_and_at_the_end(self):
        self.check([([97], [9]), ([66], [2])], [([65], [1]), ([66], [2])], [97], [[9]])
        self.check([([66], [2]), ([97], [9])], [([66], [2]), ([65], [1])], [97], [[9]])
        self.check([([97], [9])], [([65], [1]), ([65], [1])], [97], [[9]])

    def test_the_lists_are_copied(self):
        comments = Comments([86], [([65], [1]), ([66], [2])])
        name, values = [97], [[4], [5]]
        result = comments.with_values(name, values)
        name.append(1)
        values[0].append(1)
        values.append([6])
        result.vendor.append(1)
        result.entries[2][1].append(1)
        self.assertEqual([([97], [4]), ([97], [5]), ([66], [2, 1])], result.entries)
        self.assertEqual([86], comments.vendor)
        self.assertEqual([([65], [1]), ([66], [2])], comments.entries)

    def test_new_entries_do_not_share_their_names(self):
        result = Comments([], []).with_values([65], [[1], [2]])
        result.entries[0][0].append(9)
        self.assertEqual([65], result.entries[1][0])


class WritingAndReadingTest(Case):
    def check(self, vendor, entries):
        """Check that comments are written by the table, and read back between other bytes."""
        comments = Comments(vendor, entries)
        body = body_of(vendor, entries)
        self.assertEqual(body, self.unchanged(write_comments, comments))
        for before in ([], [0], [255] * 5):
            for behind in ([], [0], [255] * 5):
                start = len(before)
                again = self.unchanged(read_comments, before + body + behind, start, start + len(body))
                self.assertTrue(comments == again)
                self.assertEqual((vendor, entries), (again.vendor, again.entries))

    def test_lists(self):
        for vendor, entries in LISTS:
            self.check(vendor, entries)

    def test_any_comments(self):
        pick = picker(155)
        signs = list(range(32, 61)) + list(range(62, 127))
        points = [0, 61, 127, 128, 2047, 2048, 55295, 57344, 65535, 65536, 1114111]
        for _ in range(100):
            entries = [
                ([pick.choice(signs) for _ in range(pick.randrange(1, 9))],
                 [pick.choice(points) for _ in range(pick.randrange(9))])
                for _ in range(pick.randrange(6))
            ]
            self.check([pick.choice(points) for _ in range(pick.randrange(9))], entries)


class WrongInputsTest(Case):
    """The table of point 15.6."""

    def check(self, kind, at, body):
        """Check the error of a body, also in the middle of a byte list."""
        for before in ([], [0], [255, 61, 3]):
            for behind in ([], [61, 128], [0] * 9):
                start = len(before)
                data = before + body + behind
                self.check_raises(kind, start + at, self.reader, data, start, start + len(body))

    def reader(self, data, start, stop):
        return self.unchanged(read_comments, data, start, stop)

    def test_missing_bytes_of_the_length_of_the_vendor(self):
        for many in range(4):
            self.check(InvalidForm, 0, [0] * many)

    def test_missing_bytes_of_the_number_of_entries(self):
        for many in range(4):
            self.check(InvalidForm, 4, length(0) + [0] * many)
            self.check(InvalidForm, 6, with_length([86, 87]) + [0] * many)

    def test_missing_bytes_of_the_length_of_an_entry(self):
        for many in range(4):
            self.check(InvalidForm, 8, length(0) + length(1) + [0] * many)
            self.check(InvalidForm, 15, length(0) + length(2) + with_length([65, 61, 66]) + [0] * many)
        for count in (1, 256, 2 ** 16, 2 ** 24, 2 ** 32 - 1):
            self.check(InvalidForm, 8, length(0) + length(count))

    def test_lengths_that_are_greater_than_what_is_behind_them(self):
        self.check(InvalidForm, 0, length(1))
        self.check(InvalidForm, 0, length(5) + [65] * 4)
        self.check(InvalidForm, 0, length(2 ** 32 - 1) + [65] * 40)
        for more in (1, 2, 255, 256, 2 ** 24, 2 ** 31):
            self.check(InvalidForm, 8, length(0) + length(1) + length(3 + more) + [65, 61, 66])
            self.check(InvalidForm, 8, length(0) + length(1) + length(3 + more) + [255, 61, 128])

    def test_the_bytes_of_a_length_beyond_the_body(self):
        # The body ends, but the byte list goes on with what would make it right.
        body = body_of([86], [([65], [66])])
        for stop, place in ((3, 0), (4, 0), (5, 5), (8, 5), (9, 9), (12, 9), (13, 9), (15, 9)):
            self.check_raises(InvalidForm, place, read_comments, body, 0, stop)

    def test_a_vendor_that_is_not_utf8(self):
        for wrong in ([128], [195], [192, 128], [237, 160, 128], [255], [240, 144, 128]):
            self.check(InvalidText, 4, raw_body(wrong, [[65, 61]]))
            self.check(InvalidText, 6, raw_body([65, 66] + wrong + [65], []))
            self.check(InvalidText, 6, raw_body([195, 169] + wrong + [255], []))

    def test_entries_without_a_name_or_a_value(self):
        for wrong in ([], [65], [65, 66], [255], [61], [61, 61], [61, 65], [61, 255], [31]):
            self.check(InvalidForm, 8, raw_body([], [wrong]))
            self.check(InvalidForm, 16, raw_body([86], [[65, 61, 66], wrong, [255]]))

    def test_wrong_bytes_of_a_name(self):
        for wrong in (0, 31, 127, 128, 195, 255):
            self.check(InvalidText, 12, raw_body([], [[wrong, 61]]))
            self.check(InvalidText, 13, raw_body([], [[65, wrong, 61, 65]]))
            self.check(InvalidText, 13, raw_body([], [[65, wrong, wrong, 61, 128]]))
            self.check(InvalidText, 12, raw_body([], [[wrong, 65, 61, 65, 61, 128]]))
        self.check(InvalidText, 12, raw_body([], [[195, 169, 61]]))

    def test_every_byte_of_a_name(self):
        for byte in range(256):
            body = raw_body([], [[65, byte, 66, 61, 67]])
            if byte == 61:
                self.assertEqual([([65], [66, 61, 67])], read_comments(body, 0, len(body)).entries)
            elif 32 <= byte <= 126:
                self.assertEqual([([65, byte, 66], [67])], read_comments(body, 0, len(body)).entries)
            else:
                self.check(InvalidText, 13, body)

    def test_a_value_that_is_not_utf8(self):
        for wrong in ([128], [195], [192, 128], [237, 160, 128], [255], [240, 144, 128]):
            self.check(InvalidText, 14, raw_body([], [[65, 61] + wrong]))
            self.check(InvalidText, 17, raw_body([], [[65, 61, 61, 195, 169] + wrong + [255]]))
            self.check(InvalidText, 14, raw_body([], [[65, 61] + wrong, [], [255]]))

    def test_a_value_that_is_cut_off_by_the_next_entry(self):
        self.check(InvalidText, 14, raw_body([], [[65, 61, 226], [66, 61]]))

    def test_bytes_behind_the_last_entry(self):
        for vendor, entries in LISTS[:4]:
            body = body_of(vendor, entries)
            for more in ([0], [255], length(0), with_length([65, 61])):
                self.check(InvalidForm, len(body), body + more)

    def test_two_rows_at_once(self):
        # A length before the vendor's text.
        self.check(InvalidForm, 0, length(9) + [255])
        # The vendor's text before the number of entries, and before all that follows.
        self.check(InvalidText, 4, with_length([255]))
        self.check(InvalidText, 4, with_length([255]) + length(1) + length(99))
        # Of one entry: no byte 61, then its name, then its value.
        self.check(InvalidForm, 8, raw_body([], [[255, 128]]))
        self.check(InvalidForm, 8, raw_body([], [[61, 128]]))
        self.check(InvalidText, 12, raw_body([], [[31, 61, 128]]))
        self.check(InvalidText, 13, raw_body([], [[65, 127, 61, 128]]))
        # An entry before the next one, and before bytes behind the last one.
        self.check(InvalidText, 14, raw_body([], [[65, 61, 128], [61]]) + [0])
        self.check(InvalidForm, 8, raw_body([], [[65], [31, 61]]) + [0])
        # The length of an entry before its content.
        self.check(InvalidForm, 8, length(0) + length(1) + length(9) + [255])

    def test_bodies_that_are_cut_off(self):
        body = body_of([86, 233], [([65], [66, 8364]), ([66], [])])
        for stop in range(len(body)):
            with self.assertRaises(ValueError):
                read_comments(body, 0, stop)
            with self.assertRaises(ValueError):
                read_comments(body[:stop], 0, stop)
        self.assertEqual(body, write_comments(read_comments(body, 0, len(body))))
