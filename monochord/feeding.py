"""Decoding of a stream that arrives in pieces."""

from monochord.bits import BitReader
from monochord.blocks import read_block, read_marker
from monochord.digest import Md5, sample_bytes
from monochord.errors import MonochordError, Truncated
from monochord.frame import read_frame
from monochord.sequence import check_behind, check_end, no_frames, tells_digest

# What is read next. Nothing is read any more after a fault or the end.
_MARKER = 0
_BLOCK = 1
_FRAME = 2
_NOTHING = 3


class Feeder:
    """Decodes pieces of a stream, as far as they decide what it holds."""

    def __init__(self):
        self._stage = _MARKER
        # The bytes that have arrived and are kept, the place of the first of them in the stream, and the index
        # of the first one that is not read yet.
        self._held = []
        self._start = 0
        self._at = 0
        self._blocks = []
        self._info = None
        self._earlier = no_frames()
        self._samples_digest = Md5()

    def feed(self, piece):
        """The events that another piece decides."""
        if self._stage == _NOTHING:
            return []
        self._held.extend(piece)
        events = []
        event = self._event()
        while event is not None:
            events.append(event)
            event = self._event()
        self._forget()
        return events

    def finish(self):
        """The last event, after the last piece."""
        if self._stage == _NOTHING:
            return []
        end = self._start + len(self._held)
        if self._stage != _FRAME or len(self._held) > 0:
            return [self._fault("Truncated", end)]
        digest = self._samples_digest.digest()
        try:
            check_end(self._info, self._earlier.samples, digest, end)
        except MonochordError as error:
            return [self._fault(error.name, error.place)]
        self._stop()
        return [("end", self._earlier.samples)]

    def waiting(self):
        """The number of bytes that have arrived and wait for what completes them."""
        return len(self._held)

    def _forget(self):
        """Keep only the bytes that are not read yet."""
        # Without this test, bytes that wait for a long block would be copied whenever a piece arrives.
        if self._at > 0:
            self._start += self._at
            self._held = self._held[self._at:]
            self._at = 0

    def _event(self):
        """The next event that the bytes decide, or None."""
        if self._stage == _NOTHING:
            return None
        try:
            if self._stage == _MARKER:
                self._at = read_marker(self._held, self._at)
                self._stage = _BLOCK
            if self._stage == _BLOCK:
                return self._read_block()
            return self._read_frame()
        except Truncated:
            return None
        except MonochordError as error:
            return self._fault(error.name, self._start + error.place)

    def _read_block(self):
        """The event of the next block."""
        block, is_last, self._at = read_block(self._held, self._at, self._blocks)
        self._blocks.append(block)
        if self._info is None:
            self._info = block[1]
        if is_last:
            self._stage = _FRAME
        return "block", block

    def _read_frame(self):
        """The event of the next frame."""
        reader = BitReader(self._held, self._at)
        header, rows, _ = read_frame(reader, self._info.rate, self._info.depth)
        length = reader.byte_place() - self._at
        check_behind(self._info, self._earlier, header, length, self._at)
        if tells_digest(self._info):
            self._samples_digest.feed(sample_bytes(rows, self._info.depth))
        first = self._earlier.samples
        self._earlier = self._earlier.followed_by(header.variable, header.block_size)
        self._at = reader.byte_place()
        return "samples", first, rows

    def _fault(self, name, place):
        """The event of a fault, behind which nothing is read."""
        self._stop()
        return "fault", name, place

    def _stop(self):
        """Read nothing any more."""
        self._stage = _NOTHING
        self._held = []
        self._at = 0


def decode_pieces(pieces):
    """All events of a list of pieces."""
    feeder = Feeder()
    events = []
    for piece in pieces:
        events.extend(feeder.feed(piece))
    events.extend(feeder.finish())
    return events
