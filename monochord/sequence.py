"""What the frames of a stream must be, one behind the other."""

from monochord.errors import Disagreement, DigestMismatch, OutOfOrder


class Earlier:
    """What the frames before a frame tell: how many they are, their samples, and the sizes of their blocks."""

    def __init__(self, count, samples, variable, first_size, least_size, is_uniform):
        self.count = count
        self.samples = samples
        self.variable = variable
        self.first_size = first_size
        self.least_size = least_size
        # True if all have the block size of the first one.
        self.is_uniform = is_uniform

    def followed_by(self, variable, size):
        """What these frames tell together with one more."""
        if self.count == 0:
            return Earlier(1, size, variable, size, size, True)
        return Earlier(
            self.count + 1, self.samples + size, self.variable, self.first_size, min(self.least_size, size),
            self.is_uniform and size == self.first_size
        )


def no_frames():
    """What no frame tells."""
    return Earlier(0, 0, None, None, None, True)


def has_form(header, info):
    """True if a header has the rate, the number of channels and the depth of the stream info."""
    return header.rate == info.rate and header.channels == info.channel_count and header.depth == info.depth


def fault_behind(info, earlier, header, length):
    """The name of the fault of a frame with so many bytes behind earlier ones, or None."""
    if header.number != (earlier.samples if header.variable else earlier.count):
        return "OutOfOrder"
    if (
        not _is_of_the_stream(info, earlier, header)
        or not _size_allowed(info, earlier, header)
        or not _length_allowed(info, length)
        or 0 < info.length < earlier.samples + header.block_size
    ):
        return "Disagreement"
    return None


def check_behind(info, earlier, header, length, place):
    """Raise the error of a frame with so many bytes that stands at a place behind earlier ones."""
    fault = fault_behind(info, earlier, header, length)
    if fault == "OutOfOrder":
        raise OutOfOrder(place)
    if fault == "Disagreement":
        raise Disagreement(place)


def tells_digest(info):
    """True if the stream info tells a digest."""
    return any([byte != 0 for byte in info.digest])


def check_end(info, samples, digest, place):
    """Raise the error of a stream of so many samples with this digest that ends in front of a place."""
    if info.length not in (0, samples):
        raise Disagreement(place)
    if tells_digest(info) and info.digest != digest:
        raise DigestMismatch(place)


def _is_of_the_stream(info, earlier, header):
    """True if a frame has the strategy of the frames before it and the form of the stream info."""
    if earlier.count > 0 and header.variable != earlier.variable:
        return False
    return has_form(header, info)


def _size_allowed(info, earlier, header):
    """True if a frame may have its block size behind the sizes of the frames before it."""
    if header.block_size > info.greatest_block:
        return False
    if earlier.count == 0:
        return True
    if earlier.least_size < info.least_block:
        return False
    return header.variable or earlier.is_uniform and header.block_size <= earlier.first_size


def _length_allowed(info, length):
    """True if a frame may have so many bytes; 0 is an unknown bound."""
    return length >= info.least_frame and (info.greatest_frame == 0 or length <= info.greatest_frame)
