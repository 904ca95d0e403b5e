"""What counts as an integer and as a value, for every module of the program."""


def is_integer(value):
    """True if the value is an integer."""
    # isinstance would take True and False, which are not used as integers.
    return type(value) is int


def is_number(value, limit):
    """True if the value is an integer from 0 to limit - 1."""
    return is_integer(value) and 0 <= value < limit


def is_value(value):
    """True if the value is None, an integer, a string or a tuple of values."""
    # A list of what is left to look at: tuples may be nested deeper than calls can be.
    left = [value]
    while left:
        part = left.pop()
        if type(part) is tuple:
            left.extend(part)
        elif part is not None and type(part) not in (int, str):
            return False
    return True
