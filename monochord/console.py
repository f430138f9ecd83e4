"""The console: lines of words that act on an audio, settings and a byte list."""

from monochord.audio import Audio
from monochord.decoder import decode
from monochord.editing import edit
from monochord.encoder import encode
from monochord.errors import MonochordError
from monochord.feeding import decode_pieces
from monochord.ogg import from_ogg, to_ogg
from monochord.seeking import decode_from, find_frame, salvage
from monochord.settings import Settings

_INVALID = "invalid"
_PADDING = 1

# How many words stand behind each command. None means one or more.
_COUNTS = {
    "audio": 3, "append": None, "set": 2, "encode": 0, "decode": 0, "pieces": None, "frames": 0, "salvage": 0,
    "seek": 1, "from": 1, "pad": 1, "ogg": 1, "plain": 0, "byte": 2, "cut": 1,
}

# The bounds of what a line may set. There is none if the second number is None.
_BOUNDS = {
    "block_size": (16, 65535), "fixed_order": (0, 4), "linear_order": (0, 32), "precision": (5, 15),
    "partition_order": (0, 15), "seek_interval": (0, None), "search": (0, 1), "wide": (0, 1), "stereo": (0, 1),
    "wasted": (0, 1),
}
_SWITCHES = ("search", "wide", "stereo", "wasted")

_MOST_RATE = 1048575
_MOST_PADDING = 1000


class Console:
    """An audio, settings and data, on which lines act."""

    def __init__(self):
        self._audio = Audio(8000, 8, [[]])
        self._chosen = {"block_size": 16}
        self._data = []

    def execute(self, line):
        """The output of a line."""
        words = line.split(" ")
        if not _has_form(words):
            return [_INVALID]
        try:
            if words[0] == "set":
                return self._set(words[1], parse_number(words[2]))
            return self._act(words[0], [parse_number(word) for word in words[1:]])
        except MonochordError as error:
            return [f"fault {error.name} {error.place}"]

    def execute_all(self, lines):
        """The outputs of several lines, in one list."""
        output = []
        for line in lines:
            output.extend(self.execute(line))
        return output

    def _act(self, command, numbers):
        """The output of a command with numbers, other than the one that sets something."""
        if command == "audio":
            return self._begin(numbers)
        if command == "append":
            return self._append(numbers)
        if command == "encode":
            return self._hold(encode(self._audio, self._settings(), []))
        if command == "decode":
            return self._decode()
        if command == "byte":
            return self._change(numbers[0], numbers[1])
        if command == "plain":
            return self._hold(from_ogg(self._data))
        if command in ("frames", "salvage"):
            return self._list_frames(command)
        if not _are_counts(numbers):
            return [_INVALID]
        if command == "pieces":
            return self._feed(numbers)
        return self._act_at(command, numbers[0])

    def _act_at(self, command, number):
        """The output of a command with one number, which is not negative."""
        if command == "seek":
            frame = find_frame(self._data, number)
            return ["none"] if frame is None else [_frame_line(frame)]
        if command == "from":
            return [_words_line("channel", channel) for channel in decode_from(self._data, number)]
        if command == "ogg":
            return self._hold(to_ogg(self._data, serial=number))
        if command == "cut" and number <= len(self._data):
            return self._hold(self._data[:number])
        if command == "pad" and number <= _MOST_PADDING:
            return self._hold(edit(self._data, [("insert", 1, (_PADDING, number))]))
        return [_INVALID]

    def _begin(self, numbers):
        """Begin an audio without samples."""
        rate, depth, count = numbers
        if not (0 <= rate <= _MOST_RATE and 4 <= depth <= 32 and 1 <= count <= 8):
            return [_INVALID]
        self._audio = Audio(rate, depth, [[] for _ in range(count)])
        return ["ok"]

    def _append(self, numbers):
        """Append samples, one to each channel in turn."""
        audio = self._audio
        count = len(audio.channels)
        limit = 1 << (audio.depth - 1)
        if len(numbers) % count != 0 or min(numbers) < -limit or max(numbers) >= limit:
            return [_INVALID]
        channels = [channel + numbers[at::count] for at, channel in enumerate(audio.channels)]
        self._audio = Audio(audio.rate, audio.depth, channels)
        return [f"length {self._audio.length()}"]

    def _set(self, name, number):
        """Set what the encoder does."""
        lowest, highest = _BOUNDS[name]
        if number < lowest or (highest is not None and number > highest):
            return [_INVALID]
        self._chosen[name] = number == 1 if name in _SWITCHES else number
        return ["ok"]

    def _settings(self):
        """The Settings that are chosen."""
        return Settings(**self._chosen)

    def _hold(self, data):
        """Take other data."""
        self._data = data
        return [f"bytes {len(data)}"]

    def _decode(self):
        """Decode the data."""
        decoded = decode(self._data)
        output = [f"frames {len(decoded.frames)}", f"samples {decoded.audio.length()}"]
        if decoded.fault is None:
            self._audio = decoded.audio
            return output + ["no fault"]
        return output + [_words_line("fault", decoded.fault)]

    def _feed(self, lengths):
        """Decode the data in pieces of these lengths and the rest."""
        pieces = []
        start = 0
        for length in lengths:
            pieces.append(self._data[start:start + length])
            start += length
        pieces.append(self._data[start:])
        return [_event_line(event) for event in decode_pieces(pieces)]

    def _list_frames(self, command):
        """The frames of the data."""
        frames = salvage(self._data) if command == "salvage" else decode(self._data).frames
        return [_frame_line(frame) for frame in frames]

    def _change(self, place, byte):
        """Replace a byte of the data."""
        if not (0 <= place < len(self._data) and 0 <= byte <= 255):
            return [_INVALID]
        self._data = self._data[:place] + [byte] + self._data[place + 1:]
        return ["ok"]


def parse_number(word):
    """The number that a word writes, or None."""
    digits = word[1:] if word[:1] == "-" else word
    if not 1 <= len(digits) <= 9 or not all([sign in "0123456789" for sign in digits]):
        return None
    if digits[0] == "0" and word != "0":
        return None
    return int(word)


def _has_form(words):
    """True if a line consists of a command and of as many names and numbers as it takes."""
    command = words[0]
    if command not in _COUNTS:
        return False
    count = _COUNTS[command]
    if count is None:
        count = max(1, len(words) - 1)
    if len(words) != count + 1:
        return False
    if command == "set" and words[1] not in _BOUNDS:
        return False
    numbers = words[2:] if command == "set" else words[1:]
    return all([parse_number(word) is not None for word in numbers])


def _are_counts(numbers):
    """True if none of the numbers is negative."""
    return min(numbers) >= 0


def _frame_line(frame):
    """The line of a frame: its place, its first sample and its block size."""
    return _words_line("frame", frame)


def _event_line(event):
    """The line of an event."""
    if event[0] == "block":
        return f"block {event[1][0]}"
    if event[0] == "samples":
        return f"samples {event[1]} {len(event[2][0])}"
    return _words_line(event[0], event[1:])


def _words_line(word, values):
    """A word and values, with a space in front of each value."""
    return " ".join([word] + [str(value) for value in values])
