"""Chapter 16: cue sheets."""

import copy

from monochord.cuesheet import (
    CueSheet, CueTrack, index_start, is_valid_cue, read_cuesheet, track_at, write_cuesheet,
)
from monochord.errors import InvalidCueSheet, InvalidForm, InvalidText, ReservedValue
from tests.support import Case, field, picker, to_bytes

MOST = 2 ** 64 - 1
DIGITS = list(range(48, 58))
CODE_SIGNS = DIGITS + list(range(65, 91))

TRACK = {
    "offset": 588, "number": 7, "code": [65] * 12, "is_audio": True, "emphasis": False,
    "indexes": [(0, 0), (588, 1)],
}
SHEET = {"catalog": [49] * 13, "lead_in": 88200, "is_disc": True, "tracks": []}


def track(number=1, **changed):
    """A CueTrack that fits a disc, with some attributes changed."""
    attributes = {"offset": 0, "code": [], "is_audio": True, "emphasis": False, "indexes": [(0, 1)]}
    return CueTrack(**{**attributes, "number": number, **changed})


def lead_out(number=170, **changed):
    """A lead-out."""
    return track(number, **{"indexes": [], "offset": 5880, **changed})


def disc(*tracks, **changed):
    """A sheet of a disc; without tracks, one track and the lead-out."""
    attributes = {"catalog": [], "lead_in": 0, "tracks": list(tracks) or [track(), lead_out()]}
    return CueSheet(**{"is_disc": True, **attributes, **changed})


def other(*tracks, **changed):
    """A sheet of another recording; without tracks, one track and the lead-out."""
    return disc(*(tracks or (track(), lead_out(255))), **{"is_disc": False, **changed})


def parts_of(sheet):
    """The fields of a body in order, by the table of point 16.4: pairs of a name and of bits.

    The bits of one byte that belong to several fields make one part.
    """
    catalog = sheet.catalog + [0] * (128 - len(sheet.catalog))
    found = [("catalog", "".join([field(sign, 8) for sign in catalog])), ("lead-in", field(sheet.lead_in, 64))]
    found.append(("disc", field(int(sheet.is_disc), 1) + "0" * 2071))
    found.append(("tracks", field(len(sheet.tracks), 8)))
    for told in sheet.tracks:
        code = told.code if told.code else [0] * 12
        found += [("offset", field(told.offset, 64)), ("number", field(told.number, 8))]
        found.append(("code", "".join([field(sign, 8) for sign in code])))
        found.append(("signs", field(int(not told.is_audio), 1) + field(int(told.emphasis), 1) + "0" * 110))
        found.append(("indexes", field(len(told.indexes), 8)))
        for offset, number in told.indexes:
            found += [("index-offset", field(offset, 64)), ("index-number", field(number, 8)), ("reserved", "0" * 24)]
    return found


def body_of(sheet):
    """The body of a sheet, which may break the rules."""
    return to_bytes("".join([bits for _, bits in parts_of(sheet)]))


def place_of(sheet, name, which=0):
    """The place of one of the parts with a name in the body of a sheet."""
    place = 0
    for own_name, bits in parts_of(sheet):
        if own_name == name:
            if which == 0:
                return place
            which -= 1
        place += len(bits) // 8
    raise AssertionError(name)


def valid_sheets():
    """Discs and other sheets that keep all rules, with attributes at both ends of their values."""
    top = MOST // 588 * 588
    full = [track(number, offset=588 * number) for number in range(1, 100)]
    many = [track(number) for number in range(1, 255)]
    return [
        disc(), disc(lead_out()), disc(lead_out(offset=0)), disc(lead_out(offset=top)),
        disc(catalog=[48] * 13), disc(catalog=[57] * 13, lead_in=MOST), disc(lead_in=88200),
        disc(track(99), track(1), lead_out()),
        disc(track(offset=top, indexes=[(top, 0), (0, 1), (588, 2)]), lead_out()),
        disc(track(code=[48] * 12), lead_out(code=[90] * 12)), disc(track(code=[57, 65] * 6), lead_out()),
        disc(track(is_audio=False, emphasis=True), lead_out(is_audio=False)),
        disc(track(emphasis=True), lead_out(emphasis=True)),
        disc(track(indexes=[(588 * at, at) for at in range(100)]), lead_out()),
        disc(track(indexes=[(588 * at, at + 1) for at in range(100)]), lead_out()),
        disc(*full, lead_out()),
        other(), other(lead_out(255)), other(lead_out(255, offset=1)), other(lead_out(255, offset=MOST)),
        other(catalog=[32] * 128), other(catalog=[126]), other(catalog=[65, 32, 126, 48]),
        other(catalog=list(range(32, 127))), other(catalog=[48] * 12), other(catalog=[65] * 13),
        other(track(254), track(170), track(1), track(100), lead_out(255)),
        other(track(offset=MOST, indexes=[(MOST, 1), (1, 2)]), lead_out(255)),
        other(track(indexes=[(at, at + 1) for at in range(255)]), lead_out(255)),
        other(track(indexes=[(at, at) for at in range(255)]), lead_out(255)),
        other(*many, lead_out(255)),
    ]


class ClassesTest(Case):
    def test_equality_of_tracks(self):
        changes = (
            ("offset", 0), ("number", 8), ("code", []), ("code", [65] * 11 + [66]), ("is_audio", False),
            ("emphasis", True), ("indexes", []), ("indexes", [(0, 0), (588, 2)]), ("indexes", [(0, 0), (589, 1)]),
        )
        self.check_equality(CueTrack, TRACK, changes)

    def test_fields_of_a_track(self):
        told = CueTrack(*TRACK.values())
        self.assertEqual(tuple(TRACK.values()), told.fields())
        self.assertIs(tuple, told.fields().__class__)
        told.fields()[2].append(1)
        told.fields()[5].append((9, 9))
        self.assertEqual(tuple(TRACK.values()), told.fields())

    def test_the_lists_of_a_track_are_copied(self):
        code, indexes = [65] * 12, [(0, 1)]
        told = track(code=code, indexes=indexes)
        code[0] = 66
        indexes.append((9, 9))
        self.assertEqual(([65] * 12, [(0, 1)]), (told.code, told.indexes))
        told.code.append(1)
        told.indexes.append((7, 7))
        self.assertEqual(([66] + [65] * 11, [(0, 1), (9, 9)]), (code, indexes))

    def test_equality_of_sheets(self):
        tracks = [track(), lead_out()]
        changes = (
            ("catalog", []), ("catalog", [49] * 12 + [50]), ("lead_in", 0), ("is_disc", False), ("tracks", []),
            ("tracks", tracks[:1]), ("tracks", [track(), lead_out(255)]), ("tracks", [track(offset=588), lead_out()]),
        )
        self.check_equality(CueSheet, {**SHEET, "tracks": tracks}, changes)

    def test_arguments_by_position(self):
        told = CueSheet([49], 5, False, [track()])
        self.assertEqual(([49], 5, False, [track()]), (told.catalog, told.lead_in, told.is_disc, told.tracks))

    def test_the_lists_of_a_sheet_are_copied_but_not_the_tracks(self):
        catalog, tracks = [49] * 13, [track(), lead_out()]
        told = CueSheet(catalog, 0, True, tracks)
        catalog.append(1)
        tracks.append(None)
        self.assertEqual([49] * 13, told.catalog)
        self.assertEqual(2, len(told.tracks))
        self.assertIs(tracks[0], told.tracks[0])
        told.tracks.pop()
        self.assertEqual(3, len(tracks))


class RulesTest(Case):
    def check(self, expected, sheet):
        before = copy.deepcopy(sheet)
        self.assertIs(expected, is_valid_cue(sheet))
        self.assertTrue(before == sheet)

    def check_broken(self, *sheets):
        for sheet in sheets:
            self.check(False, sheet)

    def test_valid_sheets(self):
        for sheet in valid_sheets():
            self.check(True, sheet)

    def test_a_sheet_without_a_track(self):
        self.check_broken(CueSheet([], 0, True, []), CueSheet([], 0, False, []))

    def test_the_number_of_the_lead_out(self):
        for number in (1, 99, 100, 169, 171, 254, 255):
            self.check_broken(disc(lead_out(number)), disc(track(7), lead_out(number)))
        for number in (1, 99, 169, 170, 171, 254):
            self.check_broken(other(lead_out(number)), other(track(7), lead_out(number)))

    def test_another_track_with_the_number_of_the_lead_out(self):
        self.check_broken(disc(track(170), lead_out()), disc(track(1), track(170), lead_out()))
        self.check_broken(other(track(255), lead_out(255)), other(track(1), track(255), lead_out(255)))

    def test_indexes_of_the_lead_out(self):
        self.check_broken(disc(lead_out(indexes=[(0, 1)])), other(lead_out(255, indexes=[(0, 0)])))

    def test_two_tracks_with_one_number(self):
        self.check_broken(disc(track(3), track(3), lead_out()), other(track(9), track(8), track(9), lead_out(255)))
        self.check_broken(other(track(200), track(200), lead_out(255)))

    def test_codes(self):
        for length in (1, 11, 13, 24):
            self.check_broken(disc(track(code=[65] * length), lead_out()), other(lead_out(255, code=[48] * length)))
        for sign in (0, 32, 47, 58, 64, 91, 97, 122, 126):
            for at in (0, 5, 11):
                code = [65] * 12
                code[at] = sign
                self.check_broken(disc(track(code=code), lead_out()), disc(lead_out(code=code)))
                self.check_broken(other(track(code=code), lead_out(255)), other(lead_out(255, code=code)))

    def test_every_sign_of_a_code(self):
        for sign in range(128):
            self.check(sign in CODE_SIGNS, disc(track(code=[sign] * 12), lead_out()))

    def test_tracks_without_an_index(self):
        self.check_broken(disc(track(indexes=[]), lead_out()), other(track(indexes=[]), lead_out(255)))
        self.check_broken(disc(track(1), track(2, indexes=[]), lead_out()))

    def test_numbers_of_indexes(self):
        for numbers in ((2,), (3, 4), (255,), (0, 0), (0, 2), (1, 1), (1, 0), (1, 3), (0, 1, 1), (0, 1, 3), (0, 1, 2, 1)):
            indexes = [(0, number) for number in numbers]
            self.check_broken(disc(track(indexes=indexes), lead_out()), other(track(indexes=indexes), lead_out(255)))

    def test_the_catalog_of_a_disc(self):
        for length in (1, 12, 14, 128):
            self.check_broken(disc(catalog=[48] * length))
        for sign in (32, 47, 58, 65, 126):
            self.check_broken(disc(catalog=[48] * 12 + [sign]), disc(catalog=[sign] + [48] * 12))

    def test_the_number_of_tracks_of_a_disc(self):
        tracks = [track(number) for number in range(1, 100)]
        self.check(True, disc(*tracks, lead_out()))
        # Only the number of tracks is wrong in a list of such length if the numbers may repeat, so both are.
        self.check_broken(disc(*tracks, track(99), lead_out()), disc(*tracks, *tracks, lead_out()))
        self.check_broken(disc(*tracks, track(100), lead_out()))

    def test_numbers_of_the_tracks_of_a_disc(self):
        for number in (100, 101, 169, 171, 254, 255):
            self.check_broken(disc(track(number), lead_out()))
        for number in (100, 101, 169, 170, 171, 254):
            self.check(True, other(track(number), lead_out(255)))

    def test_more_than_100_indexes_on_a_disc(self):
        for many in (101, 102, 255):
            indexes = [(0, at) for at in range(many)]
            self.check_broken(disc(track(indexes=indexes), lead_out()))
            self.check(True, other(track(indexes=indexes), lead_out(255)))

    def test_offsets_on_a_disc(self):
        for offset in (1, 587, 589, MOST):
            self.check_broken(
                disc(track(offset=offset), lead_out()), disc(lead_out(offset=offset)),
                disc(track(indexes=[(offset, 1)]), lead_out()), disc(track(indexes=[(0, 0), (offset, 1)]), lead_out()),
            )

    def test_the_lead_in_of_another_recording(self):
        for lead_in in (1, 588, 88200, MOST):
            self.check_broken(other(lead_in=lead_in))
            self.check(True, disc(lead_in=lead_in))


class WritingAndReadingTest(Case):
    def check(self, sheet):
        """Check that a sheet is written by the table, and read back between other bytes."""
        body = body_of(sheet)
        self.assertEqual(body, self.unchanged(write_cuesheet, sheet))
        for before in ([], [255] * 5):
            for behind in ([], [0], [255] * 5):
                start = len(before)
                again = self.unchanged(read_cuesheet, before + body + behind, start, start + len(body))
                self.assertTrue(sheet == again)
                self.assertIs(bool, again.is_disc.__class__)
                for told in again.tracks:
                    self.assertEqual((bool, bool), (told.is_audio.__class__, told.emphasis.__class__))

    def test_valid_sheets(self):
        for sheet in valid_sheets():
            self.assertTrue(is_valid_cue(sheet))
            self.check(sheet)

    def test_a_sheet_by_hand(self):
        sheet = other(
            CueTrack(258, 3, [65, 66, 67] * 4, False, True, [(1, 1), (5, 2)]), lead_out(255, offset=1000, emphasis=True),
            catalog=[65, 66],
        )
        body = [65, 66] + [0] * 126 + [0] * 8 + [0] * 259 + [2]
        body += [0, 0, 0, 0, 0, 0, 1, 2, 3] + [65, 66, 67] * 4 + [192] + [0] * 13 + [2]
        body += [0, 0, 0, 0, 0, 0, 0, 1, 1, 0, 0, 0] + [0, 0, 0, 0, 0, 0, 0, 5, 2, 0, 0, 0]
        body += [0, 0, 0, 0, 0, 0, 3, 232, 255] + [0] * 12 + [64] + [0] * 13 + [0]
        self.assertEqual(body, write_cuesheet(sheet))
        self.check(sheet)

    def test_any_sheets(self):
        pick = picker(163)
        for _ in range(40):
            is_disc = pick.choice((False, True))
            unit = 588 if is_disc else 1
            tracks = []
            for number in pick.sample(range(1, 100), pick.randrange(6)):
                first = pick.randrange(2)
                tracks.append(track(
                    number, offset=unit * pick.randrange(10 ** 6), code=pick.choice(([], pick.choices(CODE_SIGNS, k=12))),
                    is_audio=pick.choice((False, True)), emphasis=pick.choice((False, True)),
                    indexes=[(unit * pick.randrange(10 ** 6), first + at) for at in range(pick.randrange(1, 5))],
                ))
            if is_disc:
                self.check(disc(*tracks, lead_out(), catalog=pick.choice(([], pick.choices(DIGITS, k=13)))))
            else:
                catalog = pick.choices(range(32, 127), k=pick.randrange(129))
                self.check(other(*tracks, lead_out(255), catalog=catalog))


class WrongInputsTest(Case):
    """The table of point 16.5."""

    def check(self, kind, at, body):
        """Check the error of a body, also in the middle of a byte list."""
        for before in ([], [0, 255, 3]):
            for behind in ([], [0] * 40):
                start = len(before)
                data = before + body + behind
                self.check_raises(kind, start + at, self.reader, data, start, start + len(body))

    def reader(self, data, start, stop):
        return self.unchanged(read_cuesheet, data, start, stop)

    def check_sheet(self, kind, name, sheet, which=0):
        """Check the error of a sheet that breaks a rule, at one of the fields with a name."""
        self.check(kind, place_of(sheet, name, which), body_of(sheet))

    def check_changed(self, kind, at, sheet, place, byte):
        """Check the error of the body of a sheet in which a byte is changed."""
        body = body_of(sheet)
        body[place] = byte
        self.check(kind, at, body)

    def test_fields_that_exceed_the_body(self):
        sheets = (
            disc(track(indexes=[(0, 0), (588, 1)]), lead_out()), other(track(4, code=[65] * 12), track(2), lead_out(255)),
        )
        for sheet in sheets:
            body = body_of(sheet)
            place = 0
            for _, bits in parts_of(sheet):
                for stop in range(place, place + len(bits) // 8):
                    for data in (body, body[:stop]):
                        self.check_raises(InvalidForm, place, self.reader, data, 0, stop)
                    self.check_raises(InvalidForm, place + 2, self.reader, [255, 1] + body, 2, stop + 2)
                place += len(bits) // 8
            self.assertEqual(len(body), place)

    def test_catalogs(self):
        for make in (disc, other):
            for sign in (1, 31, 127, 128, 255):
                for at in (0, 5, 127):
                    for catalog in ([49] * at + [sign], [0] * at + [sign], [49] * at + [sign] * (128 - at)):
                        self.check(InvalidText, at, body_of(make(catalog=catalog)))
            for sign in (32, 49, 126):
                self.check(InvalidText, 1, body_of(make(catalog=[0, sign])))
                self.check(InvalidText, 127, body_of(make(catalog=[0] * 127 + [sign])))
                self.check(InvalidText, 14, body_of(make(catalog=[49] * 13 + [0, sign, 0, sign])))

    def test_a_catalog_that_is_not_one_of_a_disc(self):
        for catalog in ([49], [49] * 12, [49] * 14, [49] * 128, [65] * 13, [49] * 12 + [32], [47] + [49] * 12):
            self.check_sheet(InvalidText, "catalog", disc(catalog=catalog))
            body = body_of(other(catalog=catalog))
            self.assertTrue(other(catalog=catalog) == read_cuesheet(body, 0, len(body)))

    def test_a_lead_in_of_another_recording(self):
        for lead_in in (1, 88200, MOST):
            self.check_sheet(InvalidCueSheet, "lead-in", other(lead_in=lead_in))

    def test_reserved_bits_of_the_head(self):
        for make, sign in ((disc, 128), (other, 0)):
            for bit in (1, 2, 32, 64, 127):
                self.check_changed(ReservedValue, 136, make(), 136, sign + bit)
            for place in (137, 138, 300, 393, 394):
                for byte in (1, 128, 255):
                    self.check_changed(ReservedValue, place, make(), place, byte)
        body = body_of(disc())
        body[200] = body[394] = 1
        self.check(ReservedValue, 200, body)

    def test_reserved_bits_of_a_track(self):
        sheet = disc(track(), track(2, is_audio=False, emphasis=True), lead_out())
        for which, signs in ((0, 0), (1, 192), (2, 0)):
            place = place_of(sheet, "signs", which)
            for bit in (1, 2, 16, 32, 63):
                self.check_changed(ReservedValue, place, sheet, place, signs + bit)
            for at in (place + 1, place + 7, place + 13):
                for byte in (1, 128, 255):
                    self.check_changed(ReservedValue, at, sheet, at, byte)

    def test_reserved_bits_of_an_index(self):
        sheet = disc(track(indexes=[(0, 0), (588, 1)]), lead_out())
        for which in (0, 1):
            place = place_of(sheet, "reserved", which)
            for at in range(place, place + 3):
                for byte in (1, 128, 255):
                    self.check_changed(ReservedValue, at, sheet, at, byte)

    def test_numbers_of_tracks(self):
        for sheet in (disc(), other()):
            self.check_changed(InvalidCueSheet, 395, sheet, 395, 0)
        for count in (101, 102, 255):
            self.check_changed(InvalidCueSheet, 395, disc(), 395, count)
            # On another recording this is allowed, so that the tracks are read.
            self.check_changed(InvalidForm, len(body_of(other(track()))), other(track()), 395, count)

    def test_a_number_of_tracks_of_100_on_a_disc(self):
        self.check_changed(InvalidForm, len(body_of(disc(track()))), disc(track()), 395, 100)

    def test_offsets_of_tracks_on_a_disc(self):
        for offset in (1, 587, 589, MOST):
            self.check_sheet(InvalidCueSheet, "offset", disc(track(offset=offset), lead_out()))
            self.check_sheet(InvalidCueSheet, "offset", disc(track(), track(2, offset=offset), lead_out()), 1)
            self.check_sheet(InvalidCueSheet, "offset", disc(track(), lead_out(offset=offset)), 1)

    def test_numbers_of_the_tracks(self):
        for number in (0, 100, 101, 169, 170, 171, 254, 255):
            self.check_sheet(InvalidCueSheet, "number", disc(track(number), lead_out()))
        for number in (0, 255):
            self.check_sheet(InvalidCueSheet, "number", other(track(number), lead_out(255)))
            self.check_sheet(InvalidCueSheet, "number", other(track(5), track(number), lead_out(255)), 1)
        for number in (0, 1, 99, 169, 171, 254, 255):
            self.check_sheet(InvalidCueSheet, "number", disc(track(7), lead_out(number)), 1)
            self.check_sheet(InvalidCueSheet, "number", disc(lead_out(number)))
        for number in (0, 1, 99, 169, 170, 171, 254):
            self.check_sheet(InvalidCueSheet, "number", other(track(7), lead_out(number)), 1)
            self.check_sheet(InvalidCueSheet, "number", other(lead_out(number)))

    def test_a_number_that_a_track_before_has(self):
        self.check_sheet(InvalidCueSheet, "number", disc(track(3), track(3), lead_out()), 1)
        self.check_sheet(InvalidCueSheet, "number", other(track(3), track(4), track(3), track(4), lead_out(255)), 2)

    def test_codes(self):
        for sign in (1, 32, 47, 58, 64, 91, 97, 128, 255, 0):
            for at in (0, 5, 11):
                code = [65] * at + [sign] + [66] * (11 - at)
                for sheet, which in (
                    (disc(track(code=code), lead_out()), 0), (other(track(), lead_out(255, code=code)), 1),
                ):
                    place = place_of(sheet, "code", which)
                    self.check(InvalidText, place + at, body_of(sheet))
        # The first of several, and zeros that are not all twelve.
        sheet = disc(track(code=[65, 58, 58] + [91] * 9), lead_out())
        self.check(InvalidText, place_of(sheet, "code") + 1, body_of(sheet))
        sheet = disc(track(code=[0] * 11 + [65]), lead_out())
        self.check(InvalidText, place_of(sheet, "code"), body_of(sheet))
        sheet = disc(track(code=[65] + [0] * 11), lead_out())
        self.check(InvalidText, place_of(sheet, "code") + 1, body_of(sheet))

    def test_numbers_of_indexes_of_a_track(self):
        for make, last in ((disc, 170), (other, 255)):
            self.check_sheet(InvalidCueSheet, "indexes", make(track(indexes=[]), lead_out(last)))
            self.check_sheet(InvalidCueSheet, "indexes", make(track(), track(2, indexes=[]), lead_out(last)), 1)
            self.check_sheet(InvalidCueSheet, "indexes", make(lead_out(last, indexes=[(0, 1)])))
            self.check_sheet(InvalidCueSheet, "indexes", make(track(), lead_out(last, indexes=[(0, 1)] * 200)), 1)
        for many in (101, 255):
            indexes = [(0, at) for at in range(many)]
            self.check_sheet(InvalidCueSheet, "indexes", disc(track(indexes=indexes), lead_out()))

    def test_offsets_of_indexes_on_a_disc(self):
        for offset in (1, 587, 589, MOST):
            self.check_sheet(InvalidCueSheet, "index-offset", disc(track(indexes=[(offset, 1)]), lead_out()))
            sheet = disc(track(indexes=[(0, 0), (588, 1), (offset, 2)]), lead_out())
            self.check_sheet(InvalidCueSheet, "index-offset", sheet, 2)

    def test_numbers_of_the_indexes(self):
        for numbers, which in (
            ((2,), 0), ((255,), 0), ((0, 0), 1), ((0, 2), 1), ((1, 1), 1), ((1, 0), 1), ((1, 3), 1), ((0, 1, 3), 2),
            ((0, 1, 1), 2), ((1, 2, 3, 3), 3),
        ):
            indexes = [(0, number) for number in numbers]
            self.check_sheet(InvalidCueSheet, "index-number", disc(track(indexes=indexes), lead_out()), which)
            self.check_sheet(InvalidCueSheet, "index-number", other(track(indexes=indexes), lead_out(255)), which)

    def test_bytes_behind_the_last_field(self):
        for sheet in (disc(), other(), disc(lead_out())):
            body = body_of(sheet)
            for more in ([0], [255], [0] * 36):
                self.check(InvalidForm, len(body), body + more)

    def test_two_rows_at_once(self):
        """Each fault is one of an earlier field than those behind it."""
        code = [65] * 11 + [58]
        faults = (
            (InvalidText, "catalog", {"catalog": [49] * 12}, {}), (InvalidCueSheet, "offset", {}, {"offset": 1}),
            (InvalidCueSheet, "number", {}, {"number": 100}), (InvalidText, "code", {}, {"code": code}),
            (InvalidCueSheet, "indexes", {}, {"indexes": []}),
            (InvalidCueSheet, "index-offset", {}, {"indexes": [(1, 9)]}),
            (InvalidCueSheet, "index-number", {}, {"indexes": [(0, 9)]}),
        )
        for at, (kind, name, of_sheet, of_track) in enumerate(faults):
            for _, _, others, other_track in faults[at:]:
                sheet = disc(track(**{**other_track, **of_track}), lead_out(), **{**others, **of_sheet})
                place = place_of(sheet, name) + (11 if name == "code" else 0)
                self.check(kind, place, body_of(sheet) + [0])
        # The catalog before the lead-in, the lead-in before reserved bits, these before the number of tracks.
        self.check(InvalidText, 3, body_of(other(catalog=[49, 49, 49, 200], lead_in=5)))
        self.check_changed(InvalidCueSheet, 128, other(lead_in=5), 136, 1)
        self.check_changed(InvalidText, 0, disc(catalog=[49]), 136, 129)
        # Only the first bit of this byte tells whether it is a disc.
        self.check_changed(InvalidCueSheet, 128, other(lead_in=5), 136, 127)
        self.check_changed(ReservedValue, 136, other(catalog=[65]), 136, 127)
        body = body_of(disc())
        body[394], body[395] = 1, 0
        self.check(ReservedValue, 394, body)
        # The reserved bits of a track before the number of its indexes, the index before its reserved bits.
        sheet = disc(track(indexes=[]), lead_out())
        place = place_of(sheet, "signs") + 13
        self.check_changed(ReservedValue, place, sheet, place, 1)
        sheet = disc(track(indexes=[(0, 2)]), lead_out())
        self.check_changed(InvalidCueSheet, place_of(sheet, "index-number"), sheet, place_of(sheet, "reserved"), 1)

    def test_a_short_body_before_its_later_fields(self):
        # The number of tracks and the catalog are checked though the tracks are missing.
        self.check(InvalidText, 0, body_of(disc(catalog=[49]))[:137])
        self.check(InvalidCueSheet, 128, body_of(other(lead_in=1))[:137])
        self.check(InvalidForm, 128, body_of(other(lead_in=1))[:135])
        body = body_of(disc())
        body[395] = 101
        self.check(InvalidCueSheet, 395, body[:396])
        body[137] = 1
        self.check(InvalidForm, 136, body[:394])
        self.check(ReservedValue, 137, body[:395])


class FindingTest(Case):
    def setUp(self):
        self.sheet = other(
            track(3, offset=100, indexes=[(0, 0), (20, 1), (500, 2)]), track(9, offset=1000, indexes=[(7, 1)]),
            track(4, offset=900, indexes=[(0, 1)]), lead_out(255, offset=2000),
        )

    def test_the_start_of_an_index(self):
        for number, index, expected in (
            (3, 0, 100), (3, 1, 120), (3, 2, 600), (9, 1, 1007), (4, 1, 900), (3, 3, None), (9, 0, None), (9, 2, None),
            (1, 1, None), (0, 0, None), (170, 1, None), (255, 0, None), (255, 1, None),
        ):
            self.assertEqual(expected, self.unchanged(index_start, self.sheet, number, index))

    def test_the_track_at_a_sample(self):
        for sample, expected in (
            (0, None), (99, None), (100, 3), (101, 3), (899, 3), (900, 4), (999, 4), (1000, 4), (1999, 4), (2000, 255),
            (2001, 255), (MOST, 255),
        ):
            self.assertEqual(expected, self.unchanged(track_at, self.sheet, sample))

    def test_the_last_track_in_the_order_of_the_list(self):
        sheet = other(track(3, offset=50), track(9, offset=50), lead_out(255, offset=50))
        self.assertEqual(255, track_at(sheet, 50))
        self.assertIsNone(track_at(sheet, 49))
        sheet = disc(track(1, offset=588), track(2, offset=0), lead_out(offset=1176))
        self.assertEqual([2, 2, 170], [track_at(sheet, sample) for sample in (0, 588, 1176)])

    def test_only_a_lead_out(self):
        self.assertEqual(170, track_at(disc(lead_out(offset=0)), 0))
        self.assertIsNone(index_start(disc(lead_out(offset=0)), 170, 0))
