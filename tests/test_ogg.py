"""Chapter 27: Ogg."""

import struct

from monochord.audio import Audio
from monochord.blocks import write_blocks
from monochord.decoder import decode
from monochord.encoder import encode
from monochord.errors import (
    Disagreement, InvalidForm, InvalidPage, LostSync, MonochordError, NotAStream, OutOfOrder, ReservedValue, Truncated,
)
from monochord.ogg import Page, from_ogg, lace, read_page, to_ogg, write_page
from monochord.settings import Settings
from tests.streams import BLOCKS, any_audio, faulty_streams, info_of, places_of, stream_of
from tests.support import Case, picker

NONE_ENDS = 2 ** 64 - 1
SIZES = [16, 16, 16, 5]
MAPPING = [127, 70, 76, 65, 67, 1, 0]


def crc(data):
    """The CRC-32, bit by bit, by point 02.1."""
    total = 0
    for byte in data:
        total ^= byte << 24
        for _ in range(8):
            total = total << 1 ^ (0x04C11DB7 if total >> 31 else 0)
            total &= 0xFFFFFFFF
    return total


def page_bytes(flags, granule, serial, number, segments, version=0, change=0):
    """The bytes of a page, by the table of point 27.1."""
    head = b"OggS" + struct.pack("<BBQII", version, flags, granule, serial, number)
    rest = [len(segments)] + [len(segment) for segment in segments] + sum(segments, [])
    total = crc(list(head) + [0] * 4 + rest) ^ change
    return list(head) + list(struct.pack("<I", total)) + rest


def segments_of(packet):
    """The segments of a packet, by point 27.2."""
    whole = len(packet) // 255
    return [packet[255 * at:255 * at + 255] for at in range(whole)] + [packet[255 * whole:]]


def packets_of(data):
    """The first packet, the further blocks and the frames of a stream, by point 27.3."""
    place, blocks = 4, []
    last = False
    while not last:
        last = data[place] >= 128
        stop = place + 4 + int.from_bytes(bytes(data[place + 1:place + 4]), "big")
        blocks.append(data[place:stop])
        place = stop
    decoded = decode(data)
    places = [frame[0] for frame in decoded.frames] + [len(data)]
    frames = [data[a:b] for a, b in zip(places, places[1:])]
    told = len(blocks) - 1 if len(blocks) <= 65536 else 0
    first = MAPPING + [told // 256, told % 256] + data[:42]
    return first, blocks[1:], list(zip(frames, [first + size for _, first, size in decoded.frames]))


def pages_of(data, most):
    """The pages of a stream as tuples, by point 27.4, without the flags of the first and the last one."""
    first, blocks, frames = packets_of(data)
    pages = [(0, 0, [first])]
    for group in ([(block, 0) for block in blocks], frames):
        listed = []
        for packet, samples in group:
            parts = segments_of(packet)
            listed += [(part, samples if at == len(parts) - 1 else None) for at, part in enumerate(parts)]
        for at in range(0, len(listed), most):
            own = listed[at:at + most]
            ended = [samples for _, samples in own if samples is not None]
            rest = 1 if at > 0 and len(listed[at - 1][0]) == 255 else 0
            pages.append((rest, max(ended) if ended else NONE_ENDS, [part for part, _ in own]))
    return pages


def ogg_of(data, serial, most=255):
    """The Ogg file of a stream."""
    pages, result = pages_of(data, most), []
    for number, (flags, granule, segments) in enumerate(pages):
        flags += 2 * (number == 0) + 4 * (number == len(pages) - 1)
        result += page_bytes(flags, granule, serial, number, segments)
    return result


def streams():
    """Streams of several kinds."""
    pick = picker(271)
    long_block = (7, [at % 256 for at in range(1000)])
    yield stream_of([])[0]
    yield stream_of([], blocks=[(1, 0)])[0]
    yield stream_of([16])[0]
    yield stream_of(SIZES, blocks=list(BLOCKS))[0]
    yield stream_of([], blocks=[long_block, (1, 251), (1, 506), (7, []), long_block])[0]
    yield stream_of([200, 200, 13], greatest_block=200, least_block=200, blocks=[(1, 251)])[0]
    yield encode(any_audio(pick, 24, 2, 700), Settings(300, seek_interval=100, vendor="v"), [long_block])
    yield encode(any_audio(pick, 8, 1, 100), Settings(16, block_sizes=[16, 40]), [])
    yield encode(Audio(8000, 8, [[]]), Settings(16), [(1, 3)])


class LaceTest(Case):
    def test_lengths(self):
        for length, expected in (
            (0, [0]), (1, [1]), (254, [254]), (255, [255, 0]), (256, [255, 1]), (510, [255, 255, 0]),
            (511, [255, 255, 1]), (1000, [255, 255, 255, 235]),
        ):
            packet = [at % 256 for at in range(length)]
            segments = self.unchanged(lace, packet)
            self.assertEqual(expected, [len(segment) for segment in segments])
            self.assertEqual(packet, sum(segments, []))
            self.assertTrue(all(segment.__class__ is list for segment in segments))


class PageTest(Case):
    CASES = (
        (2, 0, 7, 0, [[1, 2, 3]]), (0, 0, 0, 0, []), (7, NONE_ENDS, 2 ** 32 - 1, 2 ** 32 - 1, [[]]),
        (1, 2 ** 63 + 5, 258, 66051, [[9] * 255, [], [7]]), (4, 255, 1, 1, [[at % 256] for at in range(255)]),
        (0, 1, 2, 3, [[255] * 255] * 255), (0, 1, 2, 3, [[]] * 255),
    )

    def test_written_and_read(self):
        for case in self.CASES:
            page = Page(*case)
            data = write_page(page)
            self.assertEqual(page_bytes(*case), data)
            self.assertEqual(case, (page.flags, page.granule, page.serial, page.number, page.segments))
            for before, behind in (([], []), ([1, 2], [3]), (data, data)):
                result = self.unchanged(read_page, before + data + behind, len(before))
                self.assertIs(tuple, result.__class__)
                told, place = result
                self.assertIs(Page, told.__class__)
                self.assertEqual(case, (told.flags, told.granule, told.serial, told.number, told.segments))
                self.assertEqual(len(before) + len(data), place)

    def test_the_segments_are_copied(self):
        segments = [[1, 2], [3]]
        page = Page(0, 0, 0, 0, segments)
        segments[0].append(9)
        segments.append([5])
        self.assertEqual([[1, 2], [3]], page.segments)

    def test_errors(self):
        data = page_bytes(0, 5, 6, 7, [[1, 2], [3]])
        for before in ([], [79, 103, 103], data):
            at = len(before)
            for length in range(len(data)):
                self.check_raises(Truncated, at + length, read_page, before + data[:length], at)
            for k in range(4):
                changed = list(data)
                changed[k] ^= 1
                self.check_raises(LostSync, at, read_page, before + changed, at)
                # This comes before a page that is not complete.
                self.check_raises(LostSync, at, read_page, before + changed[:4], at)
                self.check_raises(Truncated, at + 3, read_page, before + changed[:3], at)
            for version in (1, 255):
                wrong = page_bytes(0, 5, 6, 7, [[1, 2], [3]], version=version)
                self.check_raises(ReservedValue, at + 4, read_page, before + wrong, at)
                self.check_raises(Truncated, at + len(wrong) - 1, read_page, before + wrong[:-1], at)
            for flags in (8, 15, 255):
                wrong = page_bytes(flags, 5, 6, 7, [[1, 2], [3]])
                self.check_raises(ReservedValue, at + 5, read_page, before + wrong, at)
                wrong = page_bytes(flags, 5, 6, 7, [[1, 2], [3]], version=1)
                self.check_raises(ReservedValue, at + 4, read_page, before + wrong, at)
                wrong = page_bytes(flags, 5, 6, 7, [[1, 2], [3]], change=1)
                self.check_raises(ReservedValue, at + 5, read_page, before + wrong, at)
            for change in (1, 2 ** 31, 2 ** 32 - 1):
                wrong = page_bytes(0, 5, 6, 7, [[1, 2], [3]], change=change)
                self.check_raises(InvalidPage, at, read_page, before + wrong, at)

    def test_every_changed_byte_is_found(self):
        data = page_bytes(1, 5, 6, 7, [[1, 2], [3]])
        for at in range(4, len(data)):
            for bit in range(8):
                changed = list(data)
                changed[at] ^= 1 << bit
                with self.assertRaises(MonochordError):
                    read_page(changed + [0] * 300, 0)

    def test_at_the_end(self):
        data = page_bytes(1, 5, 6, 7, [[1, 2], [3]])
        self.check_raises(Truncated, len(data), read_page, data, len(data))


class ThereAndBackTest(Case):
    def test_streams(self):
        for data in streams():
            for most in (1, 2, 3, 7, 255):
                for serial in (0, 1, 2 ** 32 - 1):
                    told = self.unchanged(to_ogg, data, serial=serial, segments=most)
                    self.assertEqual(ogg_of(data, serial, most), told)
                    self.assertEqual(data, self.unchanged(from_ogg, told))
            self.assertEqual(to_ogg(data, serial=5, segments=255), to_ogg(data, serial=5))

    def pages(self, data):
        """All pages of an Ogg file."""
        pages, place = [], 0
        while place < len(data):
            page, place = read_page(data, place)
            pages.append(page)
        return pages

    def test_pages_by_hand(self):
        data = stream_of(SIZES, blocks=[(1, 251), (1, 3)])[0]
        # The blocks have 255 and 7 bytes, the frames less than 255.
        pages = self.pages(to_ogg(data, serial=9, segments=2))
        self.assertEqual([2, 0, 0, 0, 4], [page.flags for page in pages])
        self.assertEqual([0, 0, 0, 32, 53], [page.granule for page in pages])
        self.assertEqual([9] * 5, [page.serial for page in pages])
        self.assertEqual([0, 1, 2, 3, 4], [page.number for page in pages])
        self.assertEqual([1, 2, 1, 2, 2], [len(page.segments) for page in pages])
        self.assertEqual([51], [len(segment) for segment in pages[0].segments])
        self.assertEqual([255, 0], [len(segment) for segment in pages[1].segments])
        self.assertEqual(MAPPING + [0, 2] + data[:42], pages[0].segments[0])
        pages = self.pages(to_ogg(data, serial=9, segments=1))
        self.assertEqual([2, 0, 1, 0, 0, 0, 0, 4], [page.flags for page in pages])
        self.assertEqual([0, NONE_ENDS, 0, 0, 16, 32, 48, 53], [page.granule for page in pages])
        pages = self.pages(to_ogg(data, serial=9))
        self.assertEqual([2, 0, 4], [page.flags for page in pages])
        self.assertEqual([0, 0, 53], [page.granule for page in pages])

    def test_a_packet_over_several_pages(self):
        data = stream_of([300, 300], least_block=300, greatest_block=300)[0]
        lengths = [b - a for a, b in zip(places_of([300, 300], least_block=300, greatest_block=300),
                                         places_of([300, 300], least_block=300, greatest_block=300)[1:])]
        self.assertEqual([3, 3], [length // 255 + 1 for length in lengths])
        pages = self.pages(to_ogg(data, serial=0, segments=2))
        self.assertEqual([2, 0, 1, 5], [page.flags for page in pages])
        self.assertEqual([0, NONE_ENDS, 300, 600], [page.granule for page in pages])
        self.assertEqual(data, from_ogg(to_ogg(data, serial=0, segments=2)))

    def test_the_most_segments_on_a_page(self):
        data = stream_of([], blocks=[(1, 255 * 300)])[0]
        written = to_ogg(data, serial=0)
        pages = self.pages(written)
        self.assertEqual([1, 255, 46], [len(page.segments) for page in pages])
        self.assertEqual([0, NONE_ENDS, 0], [page.granule for page in pages])
        self.assertEqual(to_ogg(data, serial=0, segments=255), written)
        self.assertEqual(data, from_ogg(written))

    def test_no_frame_and_no_further_block(self):
        pages = self.pages(to_ogg(stream_of([])[0], serial=0))
        self.assertEqual([(6, 0, 0)], [(page.flags, page.granule, page.number) for page in pages])
        self.assertEqual([0, 0], pages[0].segments[0][7:9])
        pages = self.pages(to_ogg(stream_of([], blocks=[(1, 1)])[0], serial=0))
        self.assertEqual([2, 4], [page.flags for page in pages])
        self.assertEqual([0, 0], [page.granule for page in pages])

    def test_many_further_blocks(self):
        for many, told in ((65535, [255, 255]), (65536, [0, 0])):
            data = write_blocks([(0, info_of())] + [(1, 0)] * many)
            written = to_ogg(data, serial=0)
            self.assertEqual(told, written[28 + 7:28 + 9])
            self.assertEqual(data, from_ogg(written))

    def test_a_stream_with_a_fault(self):
        for name, data, (fault, place), _ in faulty_streams():
            with self.subTest(name):
                with self.assertRaises(MonochordError) as caught:
                    to_ogg(data, serial=0)
                self.assertEqual((fault, place), (caught.exception.name, caught.exception.place))
                self.assertEqual(fault, caught.exception.__class__.__name__)

    def test_faults_of_the_other_blocks(self):
        whole = stream_of(SIZES, blocks=list(BLOCKS))[0]
        found = set()
        for at in range(42, places_of(SIZES, blocks=list(BLOCKS))[0]):
            for byte in (0, 5, 255):
                changed = list(whole)
                changed[at] = byte
                fault = decode(changed).fault
                if fault is not None:
                    with self.assertRaises(MonochordError) as caught:
                        to_ogg(changed, serial=0)
                    self.assertEqual(fault, (caught.exception.name, caught.exception.place))
                    self.assertEqual(fault[0], caught.exception.__class__.__name__)
                    found.add(fault[0])
        self.assertTrue({"InvalidText", "InvalidCueSheet", "InvalidForm", "ReservedValue"} <= found, found)


class FileTest(Case):
    """Point 27.6."""

    def setUp(self):
        self.data = stream_of(SIZES, blocks=[(7, [1] * 300), (1, 3)])[0]
        first, blocks, frames = packets_of(self.data)
        self.first = first
        self.blocks = blocks
        self.frames = [frame for frame, _ in frames]

    def file(self, pages, serial=9):
        """An Ogg file of pages, tuples of flags and segments and of what else is not as usual."""
        data, places = [], []
        for number, page in enumerate(pages):
            flags, segments = page[:2]
            more = dict(page[2]) if len(page) > 2 else {}
            places.append(len(data))
            data += page_bytes(
                flags, more.pop("granule", 5), more.pop("serial", serial), more.pop("number", number), segments, **more
            )
        return data, places

    def parts(self, *packets):
        """The segments of packets."""
        return sum([segments_of(packet) for packet in packets], [])

    def check(self, kind, page, at, pages):
        """Check an error; its place is counted from that of a page."""
        data, places = self.file(pages)
        self.check_raises(kind, places[page] + at, from_ogg, data)

    def usual(self, **first):
        """The usual pages, the first one with changes."""
        return [
            (2, [self.first], first), (0, self.parts(*self.blocks)), (4, self.parts(*self.frames)),
        ]

    def test_the_usual_pages(self):
        data, _ = self.file(self.usual())
        self.assertEqual(self.data, from_ogg(data))
        # Bytes behind the last page.
        for more in ([0], [79, 103, 103, 83], data, [255] * 50):
            self.assertEqual(self.data, self.unchanged(from_ogg, data + more))

    def test_other_arrangements(self):
        every = self.parts(*self.blocks, *self.frames)
        for pages in (
            [(2, [self.first]), (4, every)],
            [(2, [self.first]), (0, []), (0, every), (4, [])],
            [(2, [self.first]), (0, every[:1]), (1, []), (1, every[1:]), (4, [])],
        ):
            data, _ = self.file(pages)
            self.assertEqual(self.data, from_ogg(data))

    def test_granule_positions_are_ignored(self):
        for granule in (0, 77, NONE_ENDS):
            pages = [(flags, segments, {"granule": granule}) for flags, segments, *_ in self.usual()]
            self.assertEqual(self.data, from_ogg(self.file(pages)[0]))

    def test_cut_off_at_every_byte(self):
        data, _ = self.file(self.usual())
        for length in range(len(data)):
            self.check_raises(Truncated, length, from_ogg, data[:length])

    def test_no_last_page(self):
        pages = self.usual()
        pages[2] = (0, pages[2][1])
        data, _ = self.file(pages)
        self.check_raises(Truncated, len(data), from_ogg, data)
        self.check_raises(Truncated, len(data) + 3, from_ogg, data + [79, 103, 103])
        self.check_raises(LostSync, len(data), from_ogg, data + [0] * 4)

    def test_the_errors_of_each_page(self):
        for page in range(3):
            pages = self.usual()
            flags, segments = pages[page][:2]
            pages[page] = (flags, segments, {"version": 1, "serial": 4, "number": 8})
            self.check(ReservedValue, page, 4, pages)
            pages[page] = (flags + 8, segments, {"serial": 4, "number": 8})
            self.check(ReservedValue, page, 5, pages)
            pages[page] = (flags, segments, {"change": 1, "serial": 4, "number": 8})
            self.check(InvalidPage, page, 0, pages)
            data, places = self.file(self.usual())
            data[places[page]] = 80
            self.check_raises(LostSync, places[page], from_ogg, data)

    def test_serial_numbers(self):
        for page in (1, 2):
            pages = self.usual()
            pages[page] = (7, pages[page][1], {"serial": 8, "number": 77})
            self.check(Disagreement, page, 14, pages)

    def test_page_numbers(self):
        for page in range(3):
            for number in (page + 1, page + 256, 2 ** 32 - 1, 3):
                pages = self.usual()
                pages[page] = (7 - pages[page][0], pages[page][1], {"number": number})
                self.check(OutOfOrder, page, 18, pages)
        pages = self.usual()
        pages[2] = (4, pages[2][1], {"number": 1})
        self.check(OutOfOrder, 2, 18, pages)

    def test_flags(self):
        pages = self.usual()
        for page, flags in ((0, 0), (0, 3), (0, 1), (1, 2), (1, 1), (1, 3), (2, 5), (2, 6), (2, 7)):
            changed = list(pages)
            changed[page] = (flags, pages[page][1])
            self.check(InvalidPage, page, 5, changed)
        first, rest = pages[0], self.parts(*self.blocks, *self.frames)
        # A packet goes on, but the page does not say so.
        self.check(InvalidPage, 2, 5, [first, (0, rest[:1]), (4, rest[1:])])
        self.check(InvalidPage, 2, 5, [first, (0, rest[:1]), (0, [])])
        self.check(InvalidPage, 3, 5, [first, (0, rest[:1]), (1, []), (0, rest[1:])])
        # A packet remains unfinished.
        self.check(InvalidPage, 1, 5, [first, (4, rest[:1])])
        self.check(InvalidPage, 2, 5, [first, (0, rest[:1]), (5, [])])
        self.check(InvalidPage, 2, 5, [first, (0, rest[:1]), (5, [[1] * 255])])
        self.check(InvalidPage, 0, 5, [(6, [[1] * 255])])

    def test_the_first_page(self):
        rest = self.usual()[1:]
        first = self.first
        for segments in (
            [], [[]], [first[:50]], [first + [0]], [first, []], [first, [1]], [[], first], [first[:20], first[20:]],
            [[1] * 255],
        ):
            self.check(InvalidForm, 0, 28, [(2, segments)] + rest)
        for at in range(5):
            for byte in (first[at] ^ 1, 0):
                wrong = first[:at] + [byte] + first[at + 1:]
                self.check(NotAStream, 0, 28, [(2, [wrong])] + rest)
                wrong[5] = 9
                self.check(NotAStream, 0, 28, [(2, [wrong])] + rest)
        for major in (0, 2, 255):
            wrong = first[:5] + [major] + first[6:]
            self.check(ReservedValue, 0, 33, [(2, [wrong])] + rest)
            wrong[9] = 1
            self.check(ReservedValue, 0, 33, [(2, [wrong])] + rest)
        for at in range(9, 13):
            wrong = first[:at] + [first[at] ^ 4] + first[at + 1:]
            self.check(NotAStream, 0, 37, [(2, [wrong])] + rest)
        # The minor version does not matter.
        data, _ = self.file([(2, [first[:6] + [77] + first[7:]])] + rest)
        self.assertEqual(self.data, from_ogg(data))

    def test_the_first_page_is_checked_before_the_next_one(self):
        data, _ = self.file([(2, [self.first[:50]])])
        self.check_raises(InvalidForm, 28, from_ogg, data)
        data, _ = self.file([(2, [self.first])])
        self.check_raises(Truncated, len(data), from_ogg, data)

    def told(self, number):
        """The first packet with another number of further blocks."""
        return self.first[:7] + [number // 256, number % 256] + self.first[9:]

    def test_the_number_of_further_blocks(self):
        rest = self.usual()[1:]
        for number in (0, 2):
            data, _ = self.file([(2, [self.told(number)])] + rest)
            self.assertEqual(self.data, from_ogg(data))
        for number in (1, 3, 6, 7, 258, 65535):
            self.check(Disagreement, 0, 35, [(2, [self.told(number)])] + rest)

    def test_no_further_block(self):
        first, _, frames = packets_of(stream_of(SIZES)[0])
        rest = [(4, self.parts(*[frame for frame, _ in frames]))]
        self.assertGreaterEqual(first[13], 128)
        self.assertEqual(stream_of(SIZES)[0], from_ogg(self.file([(2, [first])] + rest)[0]))
        for number in (1, 4, 65535):
            wrong = first[:7] + [number // 256, number % 256] + first[9:]
            self.check(Disagreement, 0, 35, [(2, [wrong])] + rest)

    def test_byte_13_of_the_first_packet(self):
        for byte, number in ((127, 2), (0, 2), (1, 2), (128, 0), (129, 0), (255, 0)):
            for told in (0, 1, 2):
                first = self.told(told)
                first[13] = byte
                pages = [(2, [first])] + self.usual()[1:]
                if told in (0, number):
                    self.assertEqual(first[9:] + self.data[42:], from_ogg(self.file(pages)[0]))
                else:
                    self.check(Disagreement, 0, 35, pages)

    def test_packets_whatever_they_contain(self):
        # The first further packet whose first byte is 128 or more is the last block, though these are none.
        for packets, number in (
            ([[1], [2, 200], [128]], 3), ([[127], [255, 1], [128]], 2), ([[200], [201]], 1), ([[1], [2], [3]], 3),
            ([[], [1], []], 3), ([[], [128, 5], []], 2), ([], 0), ([[0] * 255, [128] * 256], 2),
        ):
            for told in (0, 1, 2, 3, 4):
                pages = [(2, [self.told(told)]), (4, self.parts(*packets))]
                if told in (0, number):
                    data, _ = self.file(pages)
                    self.assertEqual(self.first[9:] + sum(packets, []), from_ogg(data))
                else:
                    self.check(Disagreement, 0, 35, pages)

    def test_a_first_page_that_is_the_last_one(self):
        first, _, _ = packets_of(stream_of([])[0])
        self.assertEqual(stream_of([])[0], from_ogg(self.file([(6, [first])])[0]))
        data, _ = self.file([(6, [self.told(0)])])
        self.assertEqual(self.first[9:], from_ogg(data))
        self.check(Disagreement, 0, 35, [(6, [self.told(2)])])

    def test_the_errors_of_the_pages_come_before_the_number(self):
        pages = [(2, [self.told(7)])] + self.usual()[1:]
        data, places = self.file(pages)
        self.check_raises(Truncated, len(data) - 1, from_ogg, data[:-1])
        data[-1] ^= 1
        self.check_raises(InvalidPage, places[2], from_ogg, data)

    def test_one_damaged_byte(self):
        data, _ = self.file(self.usual())
        for at in range(len(data)):
            changed = list(data)
            changed[at] ^= 64
            with self.assertRaises(MonochordError):
                from_ogg(changed)
