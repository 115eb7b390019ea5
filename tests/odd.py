"""Values of many kinds for arguments that may be any value, and short forms for tests."""

from fusenets.ratios import Ratio


class Strange:
    """An object that cannot be compared."""

    def __eq__(self, other):
        raise TypeError("not to be compared")

    __hash__ = None


def odd_values():
    """Values that are neither numbers, nodes, points, lists of lights nor nets."""
    return [None, True, False, 1.5, float("nan"), "", "A", "ab c", "a1", "abcdefghi", "\n", b"a", [], {}, (), set(),
            frozenset(), object(), Strange(), int, len, [1], {"a": 1}, (1,), (1, 2, 3), ("a",), [[]], [None],
            ([], {}), ({}, []), (Strange(), Strange()), (0, None), (0, "1"), (0, True), (True, 0), (0, 1.5),
            (Ratio(0), 1), ("0", 1), (-1, 0), (99, 0), (0, -1), (0, 99), [0, 1], range(3), Ratio, Ratio(1, 2),
            1 + 2j, lambda: 0, (None, None), ("zz", 0), "zz"]


def odd_numbers():
    """Values that are no numbers."""
    return [None, True, False, 1.5, float("nan"), "", "1", "1/2", b"1", [], [1], {}, (), (1,), set(), object(),
            Strange(), int, Ratio, 1 + 2j, len]


def is_ratio(value, top, bottom=1):
    """Whether a value is a Ratio, and this one."""
    return isinstance(value, Ratio) and (value.top, value.bottom) == (top, bottom)


def raised(call, *values, **more):
    """The error that a call raises, as its class's name and its fields, or None."""
    try:
        call(*values, **more)
    except Exception as error:
        return error.__class__.__name__, dict(vars(error))
    return None


def only_ratios(value):
    """Whether a returned value has no number but Ratios beside its indexes, checked at any depth."""
    if isinstance(value, (list, tuple)):
        return all(only_ratios(item) for item in value)
    if isinstance(value, dict):
        return all(only_ratios(item) for item in value.values())
    return value is None or isinstance(value, (str, Ratio)) or (isinstance(value, int) and not isinstance(value, bool))
