"""What several tests use."""

from truestandins.errors import WireError


def nested(make, depth):
    """A value that is nested so deep."""
    value = 0
    for _ in range(depth):
        value = make(value)
    return value


ODD_VALUES = (
    None, True, False, -3, 5, 10 ** 30, "", "zz", "Pay", (), (0,), ((),), [], [0], [[], []], {}, {"a": 1},
    ((), ()), [(), ()], (True, False), (0, 1, 2, 3), ("call",), ["pay", 1], {"pay": ()},
    nested(lambda value: (value,), 30), nested(lambda value: [value], 30), nested(lambda value: {"k": value}, 30),
)


def told(call):
    """(name of the error's class, its value) if a call raises an error of the package, else what it returns."""
    try:
        return call()
    except WireError as error:
        return type(error).__name__, error.value


def exactly(value):
    """A text that is alike for just the values that are alike in their kinds, too (True is not 1)."""
    return repr(value)
