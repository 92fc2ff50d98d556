"""Numbers and names: what they are, and how numbers are written."""


def is_number(value):
    """Whether any value is a number; True and False are none."""
    return isinstance(value, int) and not isinstance(value, bool)


def is_number_within(value, first, last):
    """Whether any value is a number from first to last."""
    return is_number(value) and first <= value <= last


def is_name(value):
    """Whether any value is a name of a link or a flow."""
    if not isinstance(value, str) or len(value) > 6:
        return False
    return value.isascii() and value.isalpha() and value.islower()


def number_text(number):
    """The decimal digits of a number of at least 0."""
    # Python writes no number of more than 4300 digits in one piece.
    pieces = []
    rest = number
    while rest >= 10 ** 60:
        rest, piece = divmod(rest, 10 ** 60)
        pieces.append(str(piece).zfill(60))
    pieces.append(str(rest))
    return "".join(pieces[::-1])


def read_number(text, most):
    """The number that a string of at most that many digits is the text of, or None."""
    if len(text) > most or not text.isascii() or not text.isdigit():
        return None
    if text.startswith("0") and text != "0":
        return None
    return int(text)
