"""Chapter 17: pictures, padding and applications."""

from monochord.errors import InvalidForm, InvalidText, ReservedValue
from monochord.picture import (
    Picture, read_application, read_padding, read_picture, write_application, write_picture,
)
from tests.support import Case, picker

FULL = {
    "use": 3, "media": [97, 47, 98], "description": [233, 65536], "width": 1, "height": 2, "bits": 24, "colours": 4,
    "content": [9, 8, 255],
}
MOST = 2 ** 32 - 1


def picture_of(**changed):
    """A Picture with some attributes changed."""
    return Picture(**{**FULL, **changed})


def number(value):
    """A number in four bytes."""
    return list(value.to_bytes(4, "big"))


def with_length(content):
    """Some bytes behind their number."""
    return number(len(content)) + content


def texted(text):
    """The bytes of a text."""
    return list("".join([chr(point) for point in text]).encode("utf-8"))


def parts_of(**changed):
    """The fields of a body in order, by point 17.2: a list of byte lists; a `raw` description is one of bytes."""
    told = {**FULL, **changed}
    description = told.get("raw", texted(told["description"]))
    return [
        number(told["use"]), number(len(told["media"])), told["media"], number(len(description)), description,
        number(told["width"]), number(told["height"]), number(told["bits"]), number(told["colours"]),
        number(len(told["content"])), told["content"],
    ]


def body_of(**changed):
    """The body of a picture."""
    return sum(parts_of(**changed), [])


def place_of(at, **changed):
    """The place of a field in the body of a picture."""
    return len(sum(parts_of(**changed)[:at], []))


class BodyCase(Case):
    def check_body(self, kind, at, reading, body):
        """Check the error of a body, also in the middle of a byte list."""
        for before in ([], [0], [255, 3, 9]):
            for behind in ([], [0] * 9, [255, 65]):
                start = len(before)
                data = before + body + behind
                call = lambda *arguments: self.unchanged(reading, *arguments)
                self.check_raises(kind, start + at, call, data, start, start + len(body))

    def read_everywhere(self, reading, body):
        """What is read of a body in each of several byte lists."""
        return [
            self.unchanged(reading, before + body + behind, len(before), len(before) + len(body))
            for before in ([], [0], [255, 3, 9]) for behind in ([], [0] * 9, [255, 65])
        ]


class PictureTest(Case):
    def test_equality(self):
        changes = (
            ("use", 4), ("media", []), ("media", [97, 47, 99]), ("description", []), ("description", [233, 65537]),
            ("width", 0), ("height", 1), ("bits", 8), ("colours", 0), ("content", []), ("content", [9, 8, 254]),
        )
        self.check_equality(Picture, FULL, changes)

    def test_fields(self):
        picture = Picture(*FULL.values())
        self.assertEqual(tuple(FULL.values()), picture.fields())
        self.assertIs(tuple, picture.fields().__class__)
        for at in (1, 2, 7):
            picture.fields()[at].append(1)
        self.assertEqual(tuple(FULL.values()), picture.fields())

    def test_the_lists_are_copied(self):
        media, description, content = [97], [233], [9]
        picture = picture_of(media=media, description=description, content=content)
        for told in (media, description, content):
            told.append(1)
        self.assertEqual(([97], [233], [9]), (picture.media, picture.description, picture.content))
        for told in (picture.media, picture.description, picture.content):
            told.append(2)
        self.assertEqual(([97, 1], [233, 1], [9, 1]), (media, description, content))


class WritingAndReadingTest(BodyCase):
    def check(self, **changed):
        """Check that a picture is written by the table, and read back between other bytes."""
        picture = picture_of(**changed)
        body = body_of(**changed)
        self.assertEqual(body, self.unchanged(write_picture, picture))
        for again in self.read_everywhere(read_picture, body):
            self.assertTrue(picture == again)
            self.assertEqual({**FULL, **changed}, again.__dict__)

    def test_both_ends_of_each_attribute(self):
        self.check()
        for use in range(21):
            self.check(use=use)
        for media in ([], [32], [126], list(range(32, 127)), [65] * 300):
            self.check(media=media)
        for description in ([], [0], [127, 128, 2047, 2048, 55295, 57344, 65535, 65536, 1114111], [8364] * 300):
            self.check(description=description)
        for name in ("width", "height", "bits", "colours"):
            for value in (0, 1, 255, 256, 65536, 2 ** 24, 2 ** 31, MOST - 1, MOST):
                self.check(**{name: value})
        for content in ([], [0], [255], [0, 255] * 200, [7] * 70000):
            self.check(content=content)
        self.check(use=0, media=[], description=[], width=0, height=0, bits=0, colours=0, content=[])

    def test_any_pictures(self):
        pick = picker(171)
        for _ in range(100):
            self.check(
                use=pick.randrange(21), media=pick.choices(range(32, 127), k=pick.randrange(9)),
                description=pick.choices((0, 65, 233, 8364, 65536), k=pick.randrange(9)), width=pick.randrange(2 ** 32),
                height=pick.randrange(2 ** 32), bits=pick.randrange(2 ** 32), colours=pick.randrange(2 ** 32),
                content=pick.choices(range(256), k=pick.randrange(9)),
            )

    def test_the_content_that_is_read_is_a_new_list(self):
        body = body_of()
        picture = read_picture(body, 0, len(body))
        for told in (picture.media, picture.description, picture.content):
            told.append(1)
        self.assertEqual(body_of(), body)


class WrongPicturesTest(BodyCase):
    """The table of point 17.3."""

    def check(self, kind, at, body):
        self.check_body(kind, at, read_picture, body)

    def test_numbers_that_exceed_the_body(self):
        parts = parts_of()
        body = sum(parts, [])
        for at in (0, 1, 3, 5, 6, 7, 8, 9):
            place = place_of(at)
            for stop in range(place, place + 4):
                self.check(InvalidForm, place, body[:stop])
                # The byte list goes on with what is missing.
                self.check_raises(InvalidForm, place, read_picture, body, 0, stop)

    def test_uses(self):
        for use in (21, 22, 255, 256, 65536, 2 ** 24, 2 ** 31, MOST):
            self.check(ReservedValue, 0, body_of(use=use))
        self.check(ReservedValue, 0, number(21))

    def test_lengths_that_are_greater_than_what_is_behind_them(self):
        for at in (1, 3, 9):
            parts = parts_of()
            place = place_of(at)
            behind = len(sum(parts[at + 1:], []))
            for more in (1, 2, 255, 2 ** 24, MOST - behind):
                parts[at] = number(behind + more)
                self.check(InvalidForm, place, sum(parts, []))
        body = body_of()
        for stop in range(place_of(10), len(body)):
            self.check(InvalidForm, place_of(9), body[:stop])
            self.check_raises(InvalidForm, place_of(9), read_picture, body, 0, stop)

    def test_media_lists(self):
        for sign in (0, 31, 127, 128, 255):
            self.check(InvalidText, 8, body_of(media=[sign]))
            self.check(InvalidText, 10, body_of(media=[65, 66, sign, sign, 67]))

    def test_descriptions(self):
        for wrong in ([128], [195], [192, 128], [237, 160, 128], [255], [240, 144, 128], [244, 144, 128, 128]):
            place = place_of(4)
            self.check(InvalidText, place, body_of(raw=wrong))
            self.check(InvalidText, place + 3, body_of(raw=[65, 195, 169] + wrong + [255]))

    def test_a_description_that_is_cut_off_by_the_next_field(self):
        self.check(InvalidText, place_of(4), body_of(raw=[226, 130], width=172 * 2 ** 24))

    def test_bytes_behind_the_content(self):
        for changed in ({}, {"content": []}):
            body = body_of(**changed)
            for more in ([0], [255], [0] * 40):
                self.check(InvalidForm, len(body), body + more)

    def test_two_rows_at_once(self):
        # Each fault is one of an earlier field than those behind it.
        self.check(ReservedValue, 0, number(21) + number(9))
        self.check(ReservedValue, 0, body_of(use=21, media=[200], raw=[200]) + [0])
        self.check(InvalidForm, 4, number(3) + number(9) + [200, 200])
        self.check(InvalidText, 8, number(3) + number(2) + [200, 200])
        self.check(InvalidText, 8, body_of(media=[200], raw=[200]) + [0])
        self.check(InvalidForm, 9, number(3) + number(1) + [65] + number(4) + [200] * 3)
        self.check(InvalidText, 13, number(3) + number(1) + [65] + number(3) + [200] * 3)
        self.check(InvalidText, place_of(4), body_of(raw=[200]) + [0])
        self.check(InvalidText, place_of(4), sum(parts_of(raw=[200])[:-1], []) + [9])
        self.check(InvalidForm, place_of(9), sum(parts_of()[:-1], []) + [9])


class PaddingTest(BodyCase):
    def test_zeros(self):
        for many in (0, 1, 2, 300):
            self.assertEqual([many] * 9, self.read_everywhere(read_padding, [0] * many))

    def test_bytes_that_are_not_zero(self):
        for byte in (1, 128, 255):
            for many in (1, 2, 40):
                for at in sorted({0, many // 2, many - 1}):
                    body = [0] * many
                    body[at] = byte
                    self.check_body(InvalidForm, at, read_padding, body)
        self.check_body(InvalidForm, 2, read_padding, [0, 0, 3, 0, 4])


class ApplicationTest(BodyCase):
    def check(self, application, body):
        self.assertEqual(body, self.unchanged(write_application, application))
        for again in self.read_everywhere(read_application, body):
            self.assertEqual(application, again)
            self.assertIs(tuple, again.__class__)

    def test_without_and_with_content(self):
        for identifier in (0, 1, 258, 2 ** 24, 2 ** 31, MOST):
            for content in ([], [0], [255], [1, 2, 3, 4, 5], [7] * 300):
                self.check((identifier, content), number(identifier) + content)

    def test_by_hand(self):
        self.check((0x61626364, [1, 0]), [97, 98, 99, 100, 1, 0])

    def test_fewer_than_four_bytes(self):
        for many in range(4):
            for byte in (0, 255):
                self.check_body(InvalidForm, 0, read_application, [byte] * many)

    def test_new_lists(self):
        content = [1, 2]
        write_application((5, content)).append(3)
        self.assertEqual([1, 2], content)
        body = [0, 0, 0, 5, 1]
        read_application(body, 0, 5)[1].append(3)
        self.assertEqual([0, 0, 0, 5, 1], body)
