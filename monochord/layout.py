"""How audio is divided into blocks."""


def block_sizes(length, settings):
    """The sizes of the blocks of audio with so many samples per channel, a new list."""
    pattern = [settings.block_size] if settings.block_sizes is None else settings.block_sizes
    sizes = []
    left = length
    while left > 0:
        size = min(left, pattern[len(sizes) % len(pattern)])
        sizes.append(size)
        left -= size
    return sizes


def block_starts(sizes):
    """The indexes of the first samples of blocks with these sizes, a new list."""
    starts = []
    start = 0
    for size in sizes:
        starts.append(start)
        start += size
    return starts


def size_range(length, settings):
    """The smallest and the largest block size that the stream information tells."""
    if settings.block_sizes is None:
        return settings.block_size, settings.block_size
    sizes = block_sizes(length, settings)
    if len(sizes) < 2:
        return settings.block_sizes[0], settings.block_sizes[0]
    return min(sizes[:-1]), max(sizes)
