"""Terms and conditions: which values they are, and what they give."""

from fusenets.nets import is_word
from fusenets.ratios import Ratio, as_ratio, is_number

DEEPEST = 10
SIGNS = ("+", "-", "*", "/")
COMPARISONS = ("<", "<=", "==")


class Fault(ArithmeticError):
    """A term has no value, or none that is allowed."""


def is_form(value, left):
    """Whether any value is a tuple that begins with a text, where so many tuples may be one in another."""
    return left > 0 and isinstance(value, tuple) and len(value) > 0 and isinstance(value[0], str)


def is_term_within(value, left):
    """Whether any value is a term with at most so many tuples one in another."""
    if is_number(value):
        return True
    if not is_form(value, left):
        return False
    kind = value[0]
    if kind == "now":
        return len(value) == 1
    if kind == "get":
        return len(value) == 2 and is_word(value[1])
    return kind in SIGNS and are_two_terms(value, left - 1)


def are_two_terms(value, left):
    """Whether a tuple has two terms behind its first item."""
    return len(value) == 3 and is_term_within(value[1], left) and is_term_within(value[2], left)


def is_condition_within(value, left):
    """Whether any value is a condition with at most so many tuples one in another."""
    if value is None:
        return True
    if not is_form(value, left):
        return False
    kind, inner = value[0], value[1:]
    if kind == "not" and len(inner) == 1 or kind == "and" and len(inner) == 2:
        return all([is_condition_within(condition, left - 1) for condition in inner])
    return kind in COMPARISONS and are_two_terms(value, left - 1)


def is_term(value):
    """Whether any value is a term."""
    return is_term_within(value, DEEPEST)


def is_condition(value):
    """Whether any value is a condition."""
    return is_condition_within(value, DEEPEST)


def is_too_long(number):
    """Whether a number has a part of more than 1000 digits."""
    edge = (10 ** 50) ** 20
    return not -edge < number.top < edge or number.bottom >= edge


def value_of(term, now, names):
    """The value of a term at a time, with a dict from variables to values."""
    if is_number(term):
        value = as_ratio(term)
    elif term[0] == "now":
        value = now
    elif term[0] == "get":
        value = names.get(term[1], Ratio(0))
    else:
        value = combined(term[0], value_of(term[1], now, names), value_of(term[2], now, names))
    if is_too_long(value):
        raise Fault()
    return value


def combined(sign, one, other):
    """What a sign makes of two numbers."""
    if sign == "+":
        return one + other
    if sign == "-":
        return one - other
    if sign == "*":
        return one * other
    if other == 0:
        raise Fault()
    return one.over(other)


def does_hold(condition, now, names):
    """Whether a condition holds at a time; both conditions of `and` are evaluated."""
    if condition is None:
        return True
    kind = condition[0]
    if kind == "not":
        return not does_hold(condition[1], now, names)
    if kind == "and":
        first = does_hold(condition[1], now, names)
        second = does_hold(condition[2], now, names)
        return first and second
    one, other = value_of(condition[1], now, names), value_of(condition[2], now, names)
    if kind == "<":
        return one < other
    if kind == "<=":
        return one <= other
    return one == other
