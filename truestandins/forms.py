"""What any value is by its form: a bool is no integer, and a list is no tuple."""


def is_integer(value):
    return isinstance(value, int) and not isinstance(value, bool)


def is_below(value, many):
    """Whether it is an integer from 0 to many - 1."""
    return is_integer(value) and 0 <= value < many


def is_worths(value):
    """Whether it is a number of worths that parts and pacts can have."""
    return is_integer(value) and 2 <= value <= 4


def is_answer(value, worths):
    """Whether it is a worth, -1 (lost) or -2 (busy)."""
    return is_integer(value) and -2 <= value < worths


def is_name(value):
    """Whether it is a string of 1 to 8 letters a to z."""
    if not isinstance(value, str):
        return False
    return 1 <= len(value) <= 8 and value.isascii() and value.isalpha() and value.islower()


def is_door(value):
    """Whether it is a name of a door: texts of pacts write any for all worths."""
    return is_name(value) and value != "any"


def is_tuple(value, size):
    return isinstance(value, tuple) and len(value) == size


def ascends(rows):
    """Whether rows, which can be compared, are sorted and without duplicates."""
    return all([rows[at] < rows[at + 1] for at in range(len(rows) - 1)])


def is_plain(value):
    """Whether it is made of tuples, strings and integers alone, so that == tells their kinds, too."""
    if isinstance(value, tuple):
        return all([is_plain(item) for item in value])
    return isinstance(value, str) or is_integer(value)


def is_like(value, known):
    """Whether any value is a tuple of integers, strings and tuples, in their kinds, too."""
    if isinstance(known, tuple):
        if not isinstance(value, tuple) or len(value) != len(known):
            return False
        return all([is_like(one, other) for one, other in zip(value, known)])
    return is_integer(value) == is_integer(known) and value == known
