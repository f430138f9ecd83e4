"""Chapter 25: decoding in pieces."""

from monochord.decoder import decode
from monochord.encoder import encode
from monochord.feeding import Feeder, decode_pieces
from monochord.settings import Settings
from tests.streams import BLOCKS, any_audio, faulty_streams, places_of, stream_of
from tests.support import Case, picker

SIZES = [16, 16, 5]


def events_of(data):
    """The events of a whole byte list, by point 25.3."""
    decoded = decode(data)
    events = [("block", block) for block in decoded.blocks]
    for _, first, size in decoded.frames:
        events.append(("samples", first, decoded.audio.rows(first, first + size)))
    if decoded.fault is None:
        return events + [("end", decoded.audio.length())]
    return events + [("fault", *decoded.fault)]


def decided_by(data):
    """The events that some first bytes of a stream decide, by points 25.1, 25.2 and 25.4."""
    events = events_of(data)
    last = events[-1]
    if last[0] == "end" or last[1] == "Truncated":
        return events[:-1]
    # The checks at the end have the length as their place; a frame has at least one byte behind its own place.
    if last[1] in ("Disagreement", "DigestMismatch") and last[2] == len(data):
        return events[:-1]
    return events


def faults():
    """The streams with a fault, and whole ones."""
    whole = stream_of(SIZES, blocks=BLOCKS[:3])[0]
    pick = picker(251)
    encoded = encode(any_audio(pick, 8, 2, 40), Settings(16, linear_order=2, seek_interval=16, vendor="v"), [(1, 3)])
    short = [(name, data) for name, data, _, _ in faulty_streams()]
    return short + [("whole", whole), ("encoded", encoded), ("marker alone", whole[:4]), ("nothing", [])]


class EventsTest(Case):
    def check(self, data, pieces):
        """Check that some pieces of a byte list give the events of the whole one."""
        self.assertEqual(data, sum(pieces, []))
        events = self.unchanged(decode_pieces, pieces)
        self.assertEqual(events_of(data), events)
        self.assertIs(list, events.__class__)
        self.assertTrue(all(event.__class__ is tuple for event in events))

    def test_a_whole_stream(self):
        data, channels = stream_of(SIZES, blocks=[(1, 3)])
        rows = [[channel[a:b] for channel in channels] for a, b in ((0, 16), (16, 32), (32, 37))]
        blocks = decode(data).blocks
        expected = [
            ("block", blocks[0]), ("block", (1, 3)), ("samples", 0, rows[0]), ("samples", 16, rows[1]),
            ("samples", 32, rows[2]), ("end", 37),
        ]
        self.assertEqual(expected, decode_pieces([data]))
        self.assertEqual([("fault", "Truncated", 0)], decode_pieces([]))
        self.assertEqual([("fault", "Truncated", 0)], decode_pieces([[], []]))
        self.assertEqual([("fault", "Truncated", 4)], decode_pieces([data[:4]]))

    def test_two_pieces_cut_at_every_byte(self):
        for name, data in faults():
            with self.subTest(name):
                for at in range(len(data) + 1):
                    self.check(data, [data[:at], data[at:]])

    def test_single_bytes_and_empty_pieces(self):
        for name, data in faults():
            with self.subTest(name):
                self.check(data, [[byte] for byte in data])
                self.check(data, [[], data, [], []])
                self.check(data, [piece for byte in data for piece in ([], [byte])])

    def test_any_pieces(self):
        pick = picker(252)
        for name, data in faults():
            with self.subTest(name):
                for _ in range(10):
                    cuts = sorted([pick.randint(0, len(data)) for _ in range(pick.randint(0, 8))])
                    bounds = [0] + cuts + [len(data)]
                    self.check(data, [data[a:b] for a, b in zip(bounds, bounds[1:])])

    def test_streams_of_the_encoder(self):
        pick = picker(253)
        for depth in range(4, 33):
            audio = any_audio(pick, depth, pick.randint(1, 8), pick.randint(0, 60))
            settings = Settings(16, block_sizes=pick.choice([None, [17, 30]]), linear_order=pick.choice([0, 3]))
            data = encode(audio, settings, list(BLOCKS))
            cuts = sorted([pick.randint(0, len(data)) for _ in range(12)])
            bounds = [0] + cuts + [len(data)]
            pieces = [data[a:b] for a, b in zip(bounds, bounds[1:])]
            self.check(data, pieces)
            events = decode_pieces(pieces)
            self.assertEqual(("end", audio.length()), events[-1])
            rows = [event[2] for event in events if event[0] == "samples"]
            for at, channel in enumerate(audio.channels):
                self.assertEqual(channel, sum([row[at] for row in rows], []))

    def test_damaged_bytes(self):
        pick = picker(254)
        whole = encode(any_audio(pick, 6, 2, 40), Settings(16, linear_order=1), [(1, 1)])
        for at in range(len(whole)):
            data = list(whole)
            data[at] ^= 1 << pick.randrange(8)
            self.check(data, [data[k:k + 7] for k in range(0, len(data), 7)])


class TimeTest(Case):
    """The call in which each event is reported."""

    def test_single_bytes(self):
        for name, data in faults():
            with self.subTest(name):
                feeder, told = Feeder(), []
                self.assertEqual([], feeder.feed([]))
                for length in range(1, len(data) + 1):
                    new = self.unchanged(feeder.feed, [data[length - 1]])
                    told += new
                    self.assertEqual(decided_by(data[:length]), told, length)
                    self.assertEqual([], feeder.feed([]))
                told += feeder.finish()
                self.assertEqual(events_of(data), told)

    def test_pieces_of_several_bytes(self):
        pick = picker(255)
        for name, data in faults():
            with self.subTest(name):
                for _ in range(4):
                    feeder, told, at = Feeder(), [], 0
                    while at < len(data):
                        size = pick.choice([0, 1, 2, 3, 5, 9, 30, 80])
                        told += feeder.feed(data[at:at + size])
                        at = min(at + size, len(data))
                        self.assertEqual(decided_by(data[:at]), told)

    def fault_after(self, data):
        """The number of bytes after which a fault is reported, fed one by one."""
        feeder = Feeder()
        for length, byte in enumerate(data, start=1):
            for event in feeder.feed([byte]):
                if event[0] == "fault":
                    return length
        return None

    def test_the_byte_that_decides(self):
        streams = {name: (data, fault) for name, data, fault, _ in faulty_streams()}
        blocks = [(1, 2), (7, [1, 2])]
        places = places_of([16, 16, 5], blocks=blocks)
        second, third, end = places[1:]
        expected = {
            "marker": 4, "kind 127": 46, "second stream info": 52, "first kind": 8, "stream info": 42,
            "padding": 48, "sync code": second + 2, "bit behind the sync code": second + 2,
            "block size code": second + 3, "rate code": second + 3, "channel code": second + 4,
            "depth code": second + 4, "coded number": second + 5, "header checksum": second + 7,
            "first bit of a subframe": second + 8, "kind of a subframe": third + 8, "wasted bits": second + 10,
            "method": second + 9, "partition order": second + 9, "frame checksum": end,
        }
        for name, after in expected.items():
            with self.subTest(name):
                self.assertEqual(after, self.fault_after(streams[name][0]))
        plain = places_of([16, 16, 16, 5])
        # These are reported when the frame is complete.
        for name, at in (("number", 2), ("rate", 1), ("depth", 1), ("both", 1), ("fewer channels", 2)):
            with self.subTest(name):
                data, (_, place) = streams[name]
                sizes = [frame[2] for frame in decode(data).frames]
                self.assertEqual(at, len(sizes))
                self.assertEqual(plain[at], place)
                changed = {"number": {"number": 3}, "rate": {"rate": 8001}, "depth": {"depth": 16},
                           "both": {"number": 7, "rate": 8001}, "fewer channels": {"channels": 1}}[name]
                length = places_of([16] * (at + 1), frames={at: changed})[-1]
                self.assertEqual(length, self.fault_after(data))
        # The checks at the end are no fault before the end.
        for name in ("fewer samples than the total", "digest", "total and digest", "cut off in a frame"):
            self.assertIsNone(self.fault_after(streams[name][0]))

    def test_a_block_without_a_body(self):
        # It is complete with its head, and the place of its fault is that of the byte behind.
        data = stream_of(SIZES, blocks=[(2, (7, []))])[0]
        data[45:50] = [0]
        self.assertEqual(("InvalidForm", 46), decode(data).fault)
        self.assertEqual(46, self.fault_after(data))
        feeder = Feeder()
        self.assertEqual(1, len(feeder.feed(data[:45])))
        self.assertEqual([("fault", "InvalidForm", 46)], feeder.feed(data[45:46]))

    def test_a_fault_before_the_frame_is_complete(self):
        # A frame of 4096 samples, of which the first few bytes have a fault.
        data = stream_of([4096], least_block=4096, greatest_block=4096)[0]
        data[44] = 255
        feeder = Feeder()
        self.assertEqual(1, len(feeder.feed(data[:44])))
        self.assertEqual([("fault", "InvalidForm", 44)], feeder.feed(data[44:45]))

    def test_residuals_and_samples_before_the_frame_is_complete(self):
        streams = {name: data for name, data, _, _ in faulty_streams()}
        for name in ("residual", "sample"):
            data = streams[name]
            after = self.fault_after(data)
            self.assertLess(after, places_of([16, 16], blocks=[(1, 2), (7, [1, 2])])[2] - 2)
            self.assertEqual(("Truncated", after - 1), decode(data[:after - 1]).fault)


class WaitingTest(Case):
    def test_after_each_byte(self):
        data, _ = stream_of(SIZES, blocks=[(1, 3), (7, [])])
        ends = [4, 42, 49, 53] + places_of(SIZES, blocks=[(1, 3), (7, [])])
        for size in (1, 2, 3, 7, 20, 50, 1000):
            feeder = Feeder()
            self.assertEqual(0, feeder.waiting())
            for at in range(0, len(data), size):
                feeder.feed(data[at:at + size])
                arrived = min(at + size, len(data))
                self.assertEqual(arrived - max([0] + [end for end in ends if end <= arrived]), feeder.waiting())
                self.assertEqual([], feeder.feed([]))
            self.assertEqual(0, feeder.waiting())
            feeder.finish()
            self.assertEqual(0, feeder.waiting())

    def test_after_a_fault(self):
        for name, data, fault, _ in faulty_streams():
            with self.subTest(name):
                feeder = Feeder()
                events = feeder.feed(data)
                if events and events[-1][0] == "fault":
                    self.assertEqual(0, feeder.waiting())
                self.assertEqual([], feeder.feed([]))
                feeder.finish()
                self.assertEqual(0, feeder.waiting())
        feeder = Feeder()
        feeder.feed([102, 76])
        self.assertEqual(2, feeder.waiting())
        feeder.feed([1, 5, 6])
        self.assertEqual(0, feeder.waiting())

    def test_after_a_truncated_end(self):
        data = stream_of(SIZES)[0]
        feeder = Feeder()
        feeder.feed(data[:-1])
        self.assertLess(0, feeder.waiting())
        self.assertEqual([("fault", "Truncated", len(data) - 1)], feeder.finish())
        self.assertEqual(0, feeder.waiting())


class AfterwardsTest(Case):
    def test_nothing_after_a_fault(self):
        whole = stream_of(SIZES)[0]
        for name, data, fault, _ in faulty_streams():
            feeder = Feeder()
            events = feeder.feed(data)
            if events and events[-1][0] == "fault":
                for more in (whole, [], [1], data):
                    self.assertEqual([], feeder.feed(more))
                    self.assertEqual(0, feeder.waiting())
                self.assertEqual([], feeder.finish(), name)

    def test_nothing_after_the_end(self):
        for data in (stream_of(SIZES)[0], stream_of(SIZES, length=1000)[0], stream_of(SIZES)[0][:-1]):
            feeder = Feeder()
            feeder.feed(data)
            self.assertEqual(1, len(feeder.finish()))
            self.assertEqual([], feeder.feed(data))
            self.assertEqual([], feeder.feed([]))
            self.assertEqual(0, feeder.waiting())

    def test_the_example(self):
        feeder = Feeder()
        self.assertEqual([], feeder.feed([102, 76]))
        self.assertEqual([("fault", "NotAStream", 0)], feeder.feed([1]))
        self.assertEqual([], feeder.finish())

    def test_the_pieces_are_changed_afterwards(self):
        data = stream_of(SIZES, blocks=[(7, [1, 2, 3])])[0]
        for size in (1, 5, 30, 1000):
            feeder, events = Feeder(), []
            for at in range(0, len(data), size):
                piece = data[at:at + size]
                events += feeder.feed(piece)
                for k in range(len(piece)):
                    piece[k] = 77
                piece.append(5)
            self.assertEqual(events_of(data), events + feeder.finish())

    def test_two_feeders_do_not_share_anything(self):
        data = stream_of(SIZES)[0]
        one, other = Feeder(), Feeder()
        told = [[], []]
        for byte in data:
            told[0] += one.feed([byte])
            told[1] += other.feed([byte])
        self.assertEqual(told[0] + one.finish(), told[1] + other.finish())
        self.assertEqual(events_of(data), told[0] + [("end", 37)])
