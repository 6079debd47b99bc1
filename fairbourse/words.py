"""Words of a text: letters, and numbers in their one written form."""

DIGITS = "0123456789"
# Python refuses to convert texts of thousands of digits with an error of its own; no limit comes near this length.
MOST_DIGITS = 20


def is_word_of(letters, most, text):
    """Tell whether a text consists of 1 to `most` of these letters."""
    return 1 <= len(text) <= most and all([letter in letters for letter in text])


def is_digits(text):
    """Tell whether a text consists of digits, few enough to be converted."""
    return is_word_of(DIGITS, MOST_DIGITS, text)


def read_number(text, least, most):
    """Return the number that a text writes, or None if it does not write one from `least` to `most`."""
    if not is_digits(text.removeprefix("-")):
        return None
    number = int(text)
    if str(number) != text or not least <= number <= most:
        return None
    return number
