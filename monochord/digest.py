"""The digest of samples: MD5 over their bytes."""

_WORD = 0xFFFFFFFF

_START = (0x67452301, 0xEFCDAB89, 0x98BADCFE, 0x10325476)

_ROTATIONS = ((7, 12, 17, 22), (5, 9, 14, 20), (4, 11, 16, 23), (6, 10, 15, 21))

_CONSTANTS = (
    0xD76AA478, 0xE8C7B756, 0x242070DB, 0xC1BDCEEE, 0xF57C0FAF, 0x4787C62A, 0xA8304613, 0xFD469501,
    0x698098D8, 0x8B44F7AF, 0xFFFF5BB1, 0x895CD7BE, 0x6B901122, 0xFD987193, 0xA679438E, 0x49B40821,
    0xF61E2562, 0xC040B340, 0x265E5A51, 0xE9B6C7AA, 0xD62F105D, 0x02441453, 0xD8A1E681, 0xE7D3FBC8,
    0x21E1CDE6, 0xC33707D6, 0xF4D50D87, 0x455A14ED, 0xA9E3E905, 0xFCEFA3F8, 0x676F02D9, 0x8D2A4C8A,
    0xFFFA3942, 0x8771F681, 0x6D9D6122, 0xFDE5380C, 0xA4BEEA44, 0x4BDECFA9, 0xF6BB4B60, 0xBEBFBC70,
    0x289B7EC6, 0xEAA127FA, 0xD4EF3085, 0x04881D05, 0xD9D4D039, 0xE6DB99E5, 0x1FA27CF8, 0xC4AC5665,
    0xF4292244, 0x432AFF97, 0xAB9423A7, 0xFC93A039, 0x655B59C3, 0x8F0CCC92, 0xFFEFF47D, 0x85845DD1,
    0x6FA87E4F, 0xFE2CE6E0, 0xA3014314, 0x4E0811A1, 0xF7537E82, 0xBD3AF235, 0x2AD7D2BB, 0xEB86D391,
)


def md5(data):
    """The digest of a byte list, a list of 16 integers."""
    parts = Md5()
    parts.feed(data)
    return parts.digest()


class Md5:
    """Computes the digest of data that is fed in parts."""

    def __init__(self):
        self._state = _START
        self._length = 0
        # The bytes behind the last whole block.
        self._rest = []

    def feed(self, data):
        """Append a byte list to the data."""
        self._length += len(data)
        waiting = self._rest + data
        whole = len(waiting) // 64 * 64
        self._state = _after_blocks(self._state, waiting, whole)
        self._rest = waiting[whole:]

    def digest(self):
        """The digest of the data so far, a new list."""
        padded = self._rest + _padding(self._length)
        state = _after_blocks(self._state, padded, len(padded))
        return [byte for word in state for byte in _low_bytes(word, 4)]


def sample_bytes(channels, depth):
    """The bytes of the samples, one sample of each channel after the other."""
    count = (depth + 7) // 8
    data = []
    for row in zip(*channels):
        for sample in row:
            data.extend(_low_bytes(sample, count))
    return data


def _low_bytes(number, count):
    """The lowest bytes of an integer, the least significant one first."""
    return [(number >> shift) & 255 for shift in range(0, 8 * count, 8)]


def _padding(length):
    """What is appended to data of this length, in bytes, so that it fills its last block."""
    return [128] + [0] * ((55 - length) % 64) + _low_bytes(8 * length, 8)


def _after_blocks(state, data, stop):
    """The state after the blocks of the data up to the index `stop`."""
    for start in range(0, stop, 64):
        state = _after_block(state, _words(data[start:start + 64]))
    return state


def _words(block):
    """The words of a block."""
    return [
        block[k] | (block[k + 1] << 8) | (block[k + 2] << 16) | (block[k + 3] << 24)
        for k in range(0, 64, 4)
    ]


def _after_block(state, words):
    """The state after a block of sixteen words."""
    a, b, c, d = state
    for step in range(64):
        chosen, index = _choice(step, b, c, d)
        mixed = (a + chosen + _CONSTANTS[step] + words[index]) & _WORD
        turn = _ROTATIONS[step // 16][step % 4]
        turned = (mixed << turn) | (mixed >> (32 - turn))
        a, b, c, d = d, (b + turned) & _WORD, b, c
    return tuple([(old + new) & _WORD for old, new in zip(state, (a, b, c, d))])


def _choice(step, b, c, d):
    """The word that a step mixes out of three others, and the index of the word of the block that it takes."""
    if step < 16:
        return (b & c) | ((b ^ _WORD) & d), step
    if step < 32:
        return (d & b) | ((d ^ _WORD) & c), (5 * step + 1) % 16
    if step < 48:
        return b ^ c ^ d, (3 * step + 5) % 16
    return c ^ (b | (d ^ _WORD)), 7 * step % 16
