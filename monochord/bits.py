"""Fields of bits, written to and read from byte lists."""

from monochord.errors import InvalidForm, Truncated

# The most zero bits of a unary field that are written at once: short enough to keep the held integer small.
_MOST_ZEROS = 56


class BitWriter:
    """Collects fields without gaps, the most significant bit first."""

    def __init__(self):
        self._whole = []
        # The bits behind the last whole byte, as an integer, and how many they are (0 to 7).
        self._held = 0
        self._held_bits = 0

    def write(self, width, value):
        """Append a field."""
        # Only the low bits are taken, so that a value that is too great leaves the fields before it as they are.
        held = (self._held << width) | (value & ((1 << width) - 1))
        held_bits = self._held_bits + width
        while held_bits >= 8:
            held_bits -= 8
            self._whole.append(held >> held_bits)
            held &= (1 << held_bits) - 1
        self._held = held
        self._held_bits = held_bits

    def write_signed(self, width, value):
        """Append a signed field."""
        # The low bits of a negative integer are those of its two's complement.
        self.write(width, value & ((1 << width) - 1))

    def write_unary(self, count):
        """Append `count` zero bits and a bit that is 1."""
        zeros = count
        while zeros > _MOST_ZEROS:
            self.write(_MOST_ZEROS, 0)
            zeros -= _MOST_ZEROS
        self.write(zeros + 1, 1)

    def pad(self):
        """Append zero bits up to the next byte boundary."""
        if self._held_bits > 0:
            self.write(8 - self._held_bits, 0)

    def append_bytes(self, data):
        """Append each byte as a field of width 8."""
        if self._held_bits == 0:
            self._whole.extend(data)
        else:
            for byte in data:
                self.write(8, byte)

    def byte_list(self):
        """All bits so far as a new byte list; the bits that its last byte lacks are 0."""
        if self._held_bits == 0:
            return list(self._whole)
        return self._whole + [self._held << (8 - self._held_bits)]

    def bits_written(self):
        """The number of bits so far."""
        return len(self._whole) * 8 + self._held_bits


class BitReader:
    """Reads the fields of a byte list, the most significant bit first."""

    def __init__(self, data, at=0):
        self._data = data
        self._position = at * 8

    def read(self, width):
        """The next field."""
        data = self._data
        start = self._position
        stop = start + width
        if stop > len(data) * 8:
            raise Truncated(len(data))
        last = (stop + 7) // 8
        value = 0
        for byte in data[start // 8:last]:
            value = (value << 8) | byte
        self._position = stop
        return (value >> (last * 8 - stop)) & ((1 << width) - 1)

    def read_signed(self, width):
        """The next signed field."""
        value = self.read(width)
        if value * 2 < (1 << width):
            return value
        return value - (1 << width)

    def read_unary(self):
        """The number of zero bits in front of the next bit that is 1."""
        data = self._data
        place = self._position // 8
        ahead = self._rest_of_byte()
        while ahead == 0:
            place += 1
            if place >= len(data):
                raise Truncated(len(data))
            ahead = data[place]
        one = place * 8 + 8 - ahead.bit_length()
        count = one - self._position
        self._position = one + 1
        return count

    def read_bytes(self, count):
        """A new byte list of the next `count` fields of width 8."""
        data = self._data
        if self._position + count * 8 > len(data) * 8:
            raise Truncated(len(data))
        if not self.aligned():
            return [self.read(8) for _ in range(count)]
        place = self.byte_place()
        self._position += count * 8
        return data[place:place + count]

    def since(self, place):
        """A new byte list of the bytes from `place` up to the position."""
        return self._data[place:self.byte_place()]

    def skip_padding(self):
        """Move to the next byte boundary, over zero bits only."""
        if self.aligned():
            return
        place = self.byte_place()
        if self._rest_of_byte() != 0:
            raise InvalidForm(place)
        self._position = place * 8 + 8

    def _rest_of_byte(self):
        """The bits from the position to the end of its byte, or 0 at the end of the byte list."""
        place = self.byte_place()
        if place >= len(self._data):
            return 0
        return self._data[place] & (255 >> (self._position % 8))

    def move_to(self, bit_place):
        """Move to a position."""
        self._position = bit_place

    def byte_place(self):
        """The index of the byte that holds the next bit."""
        return self._position // 8

    def bit_place(self):
        """The number of the next bit."""
        return self._position

    def aligned(self):
        """True if the next bit is the first one of a byte."""
        return self._position % 8 == 0
