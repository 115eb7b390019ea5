"""Words: the texts of numbers and points, and what they stand for."""

from fusenets.nets import is_word
from fusenets.ratios import Ratio, as_ratio

MOST_DIGITS = 1000


def are_digits(text):
    """Whether a text is digits, not too many."""
    if not 1 <= len(text) <= MOST_DIGITS:
        return False
    return all(["0" <= letter <= "9" for letter in text])


def number_text(number):
    """The text of a number."""
    return str(as_ratio(number))


def number_of(text):
    """The number with a text, or None."""
    is_below = text.startswith("-")
    digits, line, below = text[1 if is_below else 0:].partition("/")
    if not are_digits(digits):
        return None
    top = int(digits)
    if is_below:
        top = -top
    bottom = 1
    if line:
        if not are_digits(below) or int(below) == 0:
            return None
        bottom = int(below)
    number = Ratio(top, bottom)
    # Only the text that is written for a number stands for it: not 2/4, 1/1, 01 or -0.
    if str(number) != text:
        return None
    return number


def index_of(text):
    """The index with a text, or None."""
    if not are_digits(text) or str(int(text)) != text:
        return None
    return int(text)


def point_text(point):
    """The text of a point, as it is returned."""
    if isinstance(point, str):
        return point
    return f"{point[0]}@{number_text(point[1])}"


def point_of(text):
    """The node or place in any net with a text, or None."""
    if is_word(text):
        return text
    before, _, behind = text.partition("@")
    fuse = index_of(before)
    distance = number_of(behind)
    if fuse is None or distance is None or distance <= 0:
        return None
    return fuse, distance
