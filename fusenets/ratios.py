"""Exact fractions, and what the other modules ask about numbers."""

from math import gcd, lcm

from fusenets.errors import InvalidNumber


def is_integer(value):
    """Whether any value is an integer."""
    return isinstance(value, int) and not isinstance(value, bool)


def is_number(value):
    """Whether any value is an integer or a Ratio."""
    return isinstance(value, Ratio) or is_integer(value)


def is_positive(value):
    """Whether any value is a number above 0."""
    return is_number(value) and value > 0


def parts(number):
    """The top and the bottom of a number."""
    if isinstance(number, Ratio):
        return number.top, number.bottom
    return number, 1


def cross(one, other):
    """An integer with the sign of the difference of two numbers."""
    top, bottom = parts(one)
    other_top, other_bottom = parts(other)
    return top * other_bottom - other_top * bottom


class Ratio:
    """The fraction top / bottom, in lowest terms."""

    def __init__(self, top, bottom=1):
        if not is_integer(top):
            raise InvalidNumber(top)
        if not is_integer(bottom) or bottom == 0:
            raise InvalidNumber(bottom)
        shared = gcd(top, bottom)
        if bottom < 0:
            shared = -shared
        self._top = top // shared
        self._bottom = bottom // shared

    @property
    def top(self):
        """The integer above the line."""
        return self._top

    @property
    def bottom(self):
        """The integer below the line, at least 1."""
        return self._bottom

    def __add__(self, other):
        if not is_number(other):
            return NotImplemented
        top, bottom = parts(other)
        return Ratio(self._top * bottom + top * self._bottom, self._bottom * bottom)

    def __radd__(self, other):
        return self + other

    def __sub__(self, other):
        if not is_number(other):
            return NotImplemented
        return Ratio(cross(self, other), self._bottom * parts(other)[1])

    def __rsub__(self, other):
        return -self + other

    def __mul__(self, other):
        if not is_number(other):
            return NotImplemented
        top, bottom = parts(other)
        return Ratio(self._top * top, self._bottom * bottom)

    def __rmul__(self, other):
        return self * other

    def __neg__(self):
        return Ratio(-self._top, self._bottom)

    def __abs__(self):
        return Ratio(abs(self._top), self._bottom)

    def __eq__(self, other):
        return is_number(other) and cross(self, other) == 0

    def __lt__(self, other):
        if not is_number(other):
            return NotImplemented
        return cross(self, other) < 0

    def __le__(self, other):
        if not is_number(other):
            return NotImplemented
        return cross(self, other) <= 0

    def __gt__(self, other):
        if not is_number(other):
            return NotImplemented
        return cross(self, other) > 0

    def __ge__(self, other):
        if not is_number(other):
            return NotImplemented
        return cross(self, other) >= 0

    def __bool__(self):
        return bool(self._top)

    def __repr__(self):
        if self._bottom == 1:
            return f"{self._top}"
        return f"{self._top}/{self._bottom}"

    def __str__(self):
        return repr(self)

    def over(self, other):
        """The quotient by a number."""
        if not is_number(other) or other == 0:
            raise InvalidNumber(other)
        top, bottom = parts(other)
        return Ratio(self._top * bottom, self._bottom * top)

    def floor(self):
        """The greatest integer that is not greater."""
        return self._top // self._bottom


def as_ratio(number):
    """The Ratio that is equal to a number."""
    if isinstance(number, Ratio):
        return number
    return Ratio(number)


def total(numbers):
    """The sum of a list of numbers, as a Ratio."""
    result = Ratio(0)
    for number in numbers:
        result = result + number
    return result


def common_bottom(numbers):
    """The least positive integer whose products with all numbers are whole."""
    result = 1
    for number in numbers:
        result = lcm(result, parts(number)[1])
    return result


def whole(number, scale):
    """The integer number * scale, where the scale is a multiple of the bottom."""
    top, bottom = parts(number)
    return top * (scale // bottom)


def in_order(rows):
    """The rows, ascending by the numbers that they begin with; equal ones keep their order."""
    if len(rows) < 2:
        return list(rows)
    middle = len(rows) // 2
    return merged(in_order(rows[:middle]), in_order(rows[middle:]))


def merged(rows, others):
    """Two ascending lists of rows as one; of equal ones, the first list's come first."""
    result = []
    at = 0
    for other in others:
        while at < len(rows) and rows[at][0] <= other[0]:
            result.append(rows[at])
            at += 1
        result.append(other)
    return result + rows[at:]
