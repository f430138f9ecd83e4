"""The errors of the program."""


class MonochordError(ValueError):
    """The base of all errors: `place` is an index into the byte list that is read."""

    def __init__(self, place):
        self.place = place
        self.name = self.__class__.__name__


class Truncated(MonochordError):
    """The byte list ends too early."""


class NotAStream(MonochordError):
    """The marker at the start is wrong."""


class LostSync(MonochordError):
    """No frame or page starts where one must start."""


class ReservedValue(MonochordError):
    """A value or a bit is reserved."""


class InvalidForm(MonochordError):
    """The format does not allow a value."""


class HeaderChecksum(MonochordError):
    """The checksum of a frame header is wrong."""


class FrameChecksum(MonochordError):
    """The checksum of a frame is wrong."""


class OutOfRange(MonochordError):
    """A residual or a sample exceeds its bounds."""


class OutOfOrder(MonochordError):
    """Something stands at the wrong place of a sequence."""


class Disagreement(MonochordError):
    """Two fields contradict each other."""


class DigestMismatch(MonochordError):
    """The digest of the samples is not the one that the stream tells."""


class TooLong(MonochordError):
    """A body is too long for its field of length."""


class InvalidText(MonochordError):
    """Bytes are not the text that must stand there."""


class InvalidCueSheet(MonochordError):
    """A field breaks the rules of cue sheets."""


class InvalidPage(MonochordError):
    """A page is damaged or does not fit the pages before it."""


class InvalidEdit(MonochordError):
    """An act cannot be applied to the blocks."""


def raise_named(name, place):
    """Raise the error with a name, one of those with which decoding ends."""
    if name == "Truncated":
        raise Truncated(place)
    if name == "NotAStream":
        raise NotAStream(place)
    if name == "LostSync":
        raise LostSync(place)
    if name == "ReservedValue":
        raise ReservedValue(place)
    if name == "InvalidForm":
        raise InvalidForm(place)
    if name == "HeaderChecksum":
        raise HeaderChecksum(place)
    if name == "FrameChecksum":
        raise FrameChecksum(place)
    if name == "OutOfRange":
        raise OutOfRange(place)
    if name == "OutOfOrder":
        raise OutOfOrder(place)
    if name == "Disagreement":
        raise Disagreement(place)
    if name == "DigestMismatch":
        raise DigestMismatch(place)
    if name == "InvalidText":
        raise InvalidText(place)
    if name == "InvalidCueSheet":
        raise InvalidCueSheet(place)
    raise MonochordError(place)
