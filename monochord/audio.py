"""Audio: channels of samples with a rate and a depth."""


class Audio:
    """Some channels of equal length, with their sample rate and bit depth."""

    def __init__(self, rate, depth, channels):
        self.rate = rate
        self.depth = depth
        self.channels = [list(channel) for channel in channels]

    def length(self):
        """The number of samples of one channel."""
        if len(self.channels) == 0:
            return 0
        return len(self.channels[0])

    def rows(self, start, stop):
        """For each channel, its samples from `start` up to but not including `stop`."""
        return [channel[start:stop] for channel in self.channels]

    def __eq__(self, other):
        return (
            isinstance(other, Audio)
            and self.rate == other.rate
            and self.depth == other.depth
            and self.channels == other.channels
        )
