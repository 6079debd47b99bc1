"""The tape: numbered lines with check figures."""

from fairbourse.errors import BrokenTape

FIRST_VALUE = 7
FACTOR = 31
MODULUS = 9973
# A space, four check figures and the newline.
BEHIND_TEXT = 6


def check_of(text):
    """Return the four check figures of a text."""
    value = FIRST_VALUE
    for sign in text:
        value = (value * FACTOR + ord(sign)) % MODULUS
    return f"{value:04d}"


def write_line(number, text):
    """Return the line of a tape with this number and text, with its newline."""
    if not _is_text(text):
        raise BrokenTape("a text has one or more characters from the space to the tilde")
    numbered = f"{number} {text}"
    return f"{numbered} {check_of(numbered)}\n"


def read_tape(tape):
    """Return the texts of the good beginning of a tape, and its length in characters."""
    texts = []
    length = 0
    text = _text_at(tape, length, 1)
    while text is not None:
        texts.append(text)
        length = tape.find("\n", length) + 1
        text = _text_at(tape, length, len(texts) + 1)
    return texts, length


def _text_at(tape, start, number):
    """Return the text of the line that begins here if it is whole and has this number, or None."""
    line = tape[start:tape.find("\n", start) + 1]
    text = line[len(f"{number} "):-BEHIND_TEXT]
    # Each text has one line with this number, so writing it again finds every other line.
    if not _is_text(text) or write_line(number, text) != line:
        return None
    return text


def _is_text(text):
    return text != "" and all([" " <= sign <= "~" for sign in text])


class Tape:
    """A tape that is written line by line."""

    def __init__(self):
        self._texts = []
        self._lines = []

    def append(self, text):
        """Append a line with this text and return its number."""
        number = len(self._texts) + 1
        self._lines.append(write_line(number, text))
        self._texts.append(text)
        return number

    def texts(self):
        """Return the texts of all lines."""
        return list(self._texts)

    def whole(self):
        """Return the tape."""
        return "".join(self._lines)
