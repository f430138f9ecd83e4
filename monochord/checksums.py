"""Checksums of byte lists: remainders of a division of polynomials over two elements."""

# Item `n` of a table is what four steps of the division make of a checksum whose highest four bits are `n` and
# whose other bits are 0. So half a byte is divided at once. The polynomials are 0x07, 0x8005 and 0x04C11DB7.
_STEPS_8 = (
    0x00, 0x07, 0x0E, 0x09, 0x1C, 0x1B, 0x12, 0x15,
    0x38, 0x3F, 0x36, 0x31, 0x24, 0x23, 0x2A, 0x2D,
)
_STEPS_16 = (
    0x0000, 0x8005, 0x800F, 0x000A, 0x801B, 0x001E, 0x0014, 0x8011,
    0x8033, 0x0036, 0x003C, 0x8039, 0x0028, 0x802D, 0x8027, 0x0022,
)
_STEPS_32 = (
    0x00000000, 0x04C11DB7, 0x09823B6E, 0x0D4326D9, 0x130476DC, 0x17C56B6B, 0x1A864DB2, 0x1E475005,
    0x2608EDB8, 0x22C9F00F, 0x2F8AD6D6, 0x2B4BCB61, 0x350C9B64, 0x31CD86D3, 0x3C8EA00A, 0x384FBDBD,
)


def crc8(data, start=0):
    """The checksum of width 8; `start` is the checksum of the data before."""
    return _divided(data, start, 8, _STEPS_8)


def crc16(data, start=0):
    """The checksum of width 16; `start` is the checksum of the data before."""
    return _divided(data, start, 16, _STEPS_16)


def crc32(data, start=0):
    """The checksum of width 32; `start` is the checksum of the data before."""
    return _divided(data, start, 32, _STEPS_32)


def _divided(data, start, width, steps):
    """The remainder that the data leaves, half a byte at a time."""
    rest = start
    top = width - 4
    # What stays of the checksum when its highest four bits are shifted out.
    kept = (1 << top) - 1
    for byte in data:
        rest ^= byte << (width - 8)
        rest = ((rest & kept) << 4) ^ steps[(rest >> top) & 15]
        rest = ((rest & kept) << 4) ^ steps[(rest >> top) & 15]
    return rest
