"""Settings: what the encoder tries, and how it divides audio."""


class Settings:
    """The sizes of blocks, the bounds of what is tried, and what the metadata has besides."""

    def __init__(
        self, block_size, *, block_sizes=None, fixed_order=4, linear_order=0, search=False, precision=12,
        partition_order=4, wide=False, stereo=True, wasted=True, seek_interval=0, vendor=""
    ):
        self.block_size = block_size
        self.block_sizes = None if block_sizes is None else list(block_sizes)
        self.fixed_order = fixed_order
        self.linear_order = linear_order
        self.search = search
        self.precision = precision
        self.partition_order = partition_order
        self.wide = wide
        self.stereo = stereo
        self.wasted = wasted
        self.seek_interval = seek_interval
        self.vendor = vendor

    def __eq__(self, other):
        return (
            isinstance(other, Settings)
            and self.block_size == other.block_size
            and self.block_sizes == other.block_sizes
            and self.fixed_order == other.fixed_order
            and self.linear_order == other.linear_order
            and self.search == other.search
            and self.precision == other.precision
            and self.partition_order == other.partition_order
            and self.wide == other.wide
            and self.stereo == other.stereo
            and self.wasted == other.wasted
            and self.seek_interval == other.seek_interval
            and self.vendor == other.vendor
        )
