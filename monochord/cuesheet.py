"""Cue sheets: the tracks of a disc or of another recording."""

from monochord.errors import InvalidCueSheet, InvalidForm, InvalidText, ReservedValue
from monochord.words import big_bytes, big_number, check_inside

_CATALOG_LENGTH = 128
_CODE_LENGTH = 12

# Where the fields stand in the head, in a track and in an index.
_LEAD_IN = 128
_DISC = 136
_TRACK_COUNT = 395
_TRACKS = 396
_NUMBER = 8
_CODE = 9
_SIGNS = 21
_INDEX_COUNT = 35
_INDEXES = 36
_INDEX_RESERVED = 9
_INDEX_LENGTH = 12

# On a disc, offsets are multiples of this number of samples.
_SECTOR = 588

# A disc has at most so many tracks, and each of them at most so many indexes.
_MOST_ON_DISC = 100


class CueTrack:
    """A track: its first sample, its number, its code, two signs and its indexes."""

    def __init__(self, offset, number, code, is_audio, emphasis, indexes):
        self.offset = offset
        self.number = number
        self.code = list(code)
        self.is_audio = is_audio
        self.emphasis = emphasis
        self.indexes = list(indexes)

    def fields(self):
        """All attributes, with new lists."""
        return self.offset, self.number, list(self.code), self.is_audio, self.emphasis, list(self.indexes)

    def __eq__(self, other):
        return isinstance(other, CueTrack) and self.fields() == other.fields()


class CueSheet:
    """The catalog number, the lead-in and the tracks; the last track is the lead-out."""

    def __init__(self, catalog, lead_in, is_disc, tracks):
        self.catalog = list(catalog)
        self.lead_in = lead_in
        self.is_disc = is_disc
        self.tracks = list(tracks)

    def __eq__(self, other):
        return (
            isinstance(other, CueSheet)
            and self.catalog == other.catalog
            and self.lead_in == other.lead_in
            and self.is_disc == other.is_disc
            and self.tracks == other.tracks
        )


def is_valid_cue(sheet):
    """True if the sheet keeps the rules of cue sheets, and those of discs if it describes one."""
    if not _track_count_allowed(len(sheet.tracks), sheet.is_disc):
        return False
    if sheet.is_disc and not _disc_catalog_allowed(sheet.catalog):
        return False
    if not sheet.is_disc and sheet.lead_in != 0:
        return False
    return all([_track_allowed(sheet, at) for at in range(len(sheet.tracks))])


def read_cuesheet(data, start, stop):
    """The CueSheet of the body from the index `start` up to, but not including, `stop`."""
    catalog = _read_catalog(data, start, stop)
    check_inside(start + _LEAD_IN, 8, stop)
    lead_in = big_number(data, start + _LEAD_IN, 8)
    check_inside(start + _DISC, 1, stop)
    is_disc = data[start + _DISC] >= 128
    if is_disc and not _disc_catalog_allowed(catalog):
        raise InvalidText(start)
    if not is_disc and lead_in != 0:
        raise InvalidCueSheet(start + _LEAD_IN)
    _check_reserved(data, start + _DISC, 127, _TRACK_COUNT - _DISC, stop)
    check_inside(start + _TRACK_COUNT, 1, stop)
    count = data[start + _TRACK_COUNT]
    if not _track_count_allowed(count, is_disc):
        raise InvalidCueSheet(start + _TRACK_COUNT)
    place = start + _TRACKS
    tracks = []
    for at in range(count):
        track, place = _read_track(data, place, stop, is_disc, at == count - 1, tracks)
        tracks.append(track)
    if place < stop:
        raise InvalidForm(place)
    return CueSheet(catalog, lead_in, is_disc, tracks)


def write_cuesheet(sheet):
    """The body of a valid cue sheet."""
    data = sheet.catalog + [0] * (_CATALOG_LENGTH - len(sheet.catalog)) + big_bytes(sheet.lead_in, 8)
    data.append(128 if sheet.is_disc else 0)
    data.extend([0] * (_TRACK_COUNT - _DISC - 1))
    data.append(len(sheet.tracks))
    for track in sheet.tracks:
        data.extend(_write_track(track))
    return data


def index_start(sheet, track_number, index_number):
    """The number of the sample at which an index starts, or None if there is no such track or index."""
    for track in sheet.tracks:
        if track.number == track_number:
            for offset, number in track.indexes:
                if number == index_number:
                    return track.offset + offset
    return None


def track_at(sheet, sample):
    """The number of the track at a sample number, or None if it is ahead of all tracks."""
    found = None
    for track in sheet.tracks:
        if track.offset <= sample:
            found = track.number
    return found


def _disc_catalog_allowed(catalog):
    """True if a disc may have this catalog number."""
    return len(catalog) == 0 or len(catalog) == 13 and all([_is_digit(sign) for sign in catalog])


def _track_count_allowed(count, is_disc):
    """True if a sheet may have so many tracks."""
    return count >= 1 and (not is_disc or count <= _MOST_ON_DISC)


def _offset_allowed(offset, is_disc):
    """True if a track or an index may have this offset."""
    return not is_disc or offset % _SECTOR == 0


def _number_allowed(number, is_disc, is_last):
    """True if a track may have this number, as far as the other tracks have another one."""
    if is_last:
        return number == (170 if is_disc else 255)
    if is_disc:
        return 1 <= number <= 99
    return number not in (0, 255)


def _code_allowed(code):
    """True if a track may have this code."""
    return len(code) == 0 or len(code) == _CODE_LENGTH and all([_is_code_sign(sign) for sign in code])


def _index_count_allowed(count, is_disc, is_last):
    """True if a track may have so many indexes."""
    if is_last:
        return count == 0
    return count >= 1 and (not is_disc or count <= _MOST_ON_DISC)


def _index_number_allowed(number, before):
    """True if an index may have this number behind the indexes before it."""
    if len(before) == 0:
        return number in (0, 1)
    return number == before[-1][1] + 1


def _is_digit(sign):
    """True if an integer is an ASCII digit."""
    return 48 <= sign <= 57


def _is_code_sign(sign):
    """True if an integer is an ASCII digit or an upper case letter."""
    return _is_digit(sign) or 65 <= sign <= 90


def _track_allowed(sheet, at):
    """True if the track at an index of the list of tracks keeps the rules."""
    track = sheet.tracks[at]
    is_last = at == len(sheet.tracks) - 1
    return (
        _offset_allowed(track.offset, sheet.is_disc)
        and _number_allowed(track.number, sheet.is_disc, is_last)
        and not _is_taken(track.number, sheet.tracks[:at])
        and _code_allowed(track.code)
        and _index_count_allowed(len(track.indexes), sheet.is_disc, is_last)
        and all([_index_allowed(track.indexes, k, sheet.is_disc) for k in range(len(track.indexes))])
    )


def _index_allowed(indexes, at, is_disc):
    """True if the index at a place of a list of indexes keeps the rules."""
    offset, number = indexes[at]
    return _offset_allowed(offset, is_disc) and _index_number_allowed(number, indexes[:at])


def _is_taken(number, tracks):
    """True if one of some tracks has a number."""
    return number in [track.number for track in tracks]


def _read_catalog(data, start, stop):
    """The catalog number at the index `start`."""
    check_inside(start, _CATALOG_LENGTH, stop)
    catalog = []
    for at in range(start, start + _CATALOG_LENGTH):
        # A character is the next one of the catalog number only if there was no zero before it.
        if 32 <= data[at] <= 126 and len(catalog) == at - start:
            catalog.append(data[at])
        elif data[at] != 0:
            raise InvalidText(at)
    return catalog


def _check_reserved(data, place, mask, count, stop):
    """Check reserved bits in so many bytes; the mask tells which bits of the first byte are reserved."""
    check_inside(place, count, stop)
    if data[place] & mask != 0:
        raise ReservedValue(place)
    for at in range(place + 1, place + count):
        if data[at] != 0:
            raise ReservedValue(at)


def _read_track(data, place, stop, is_disc, is_last, before):
    """The track at a place, behind other tracks, and the place behind it and its indexes."""
    offset = _read_offset(data, place, stop, is_disc)
    check_inside(place + _NUMBER, 1, stop)
    number = data[place + _NUMBER]
    if not _number_allowed(number, is_disc, is_last) or _is_taken(number, before):
        raise InvalidCueSheet(place + _NUMBER)
    code = _read_code(data, place + _CODE, stop)
    check_inside(place + _SIGNS, 1, stop)
    signs = data[place + _SIGNS]
    _check_reserved(data, place + _SIGNS, 63, _INDEX_COUNT - _SIGNS, stop)
    check_inside(place + _INDEX_COUNT, 1, stop)
    count = data[place + _INDEX_COUNT]
    if not _index_count_allowed(count, is_disc, is_last):
        raise InvalidCueSheet(place + _INDEX_COUNT)
    indexes = _read_indexes(data, place + _INDEXES, stop, is_disc, count)
    track = CueTrack(offset, number, code, signs < 128, signs & 64 != 0, indexes)
    return track, place + _INDEXES + count * _INDEX_LENGTH


def _read_offset(data, place, stop, is_disc):
    """The offset at a place."""
    check_inside(place, 8, stop)
    offset = big_number(data, place, 8)
    if not _offset_allowed(offset, is_disc):
        raise InvalidCueSheet(place)
    return offset


def _read_code(data, place, stop):
    """The code at a place, empty if all of its bytes are 0."""
    check_inside(place, _CODE_LENGTH, stop)
    code = data[place:place + _CODE_LENGTH]
    if code == [0] * _CODE_LENGTH:
        return []
    for at, sign in enumerate(code):
        if not _is_code_sign(sign):
            raise InvalidText(place + at)
    return code


def _read_indexes(data, start, stop, is_disc, count):
    """So many indexes from a place on."""
    indexes = []
    for place in range(start, start + count * _INDEX_LENGTH, _INDEX_LENGTH):
        offset = _read_offset(data, place, stop, is_disc)
        check_inside(place + _NUMBER, 1, stop)
        number = data[place + _NUMBER]
        if not _index_number_allowed(number, indexes):
            raise InvalidCueSheet(place + _NUMBER)
        _check_reserved(data, place + _INDEX_RESERVED, 255, 3, stop)
        indexes.append((offset, number))
    return indexes


def _write_track(track):
    """The bytes of a track and of its indexes."""
    data = big_bytes(track.offset, 8) + [track.number]
    data.extend(track.code if len(track.code) > 0 else [0] * _CODE_LENGTH)
    data.append((0 if track.is_audio else 128) + (64 if track.emphasis else 0))
    data.extend([0] * (_INDEX_COUNT - _SIGNS - 1))
    data.append(len(track.indexes))
    for offset, number in track.indexes:
        data.extend(big_bytes(offset, 8) + [number, 0, 0, 0])
    return data
