"""The requests of the clients, and what they do to a plain table."""

from ringbound.guard import CELLS
from ringbound.memory import BLOCKS
from ringbound.values import is_integer, is_number


def is_contents(part):
    """True if the part is a tuple of as many integers as a block of a request has."""
    return type(part) is tuple and len(part) == CELLS and all([is_integer(value) for value in part])


def is_request(value):
    """True if the value is ("read", block) or ("write", block, values)."""
    if type(value) is not tuple or len(value) < 2:
        return False
    word, block, *rest = value
    if type(word) is not str or not is_number(block, BLOCKS):
        return False
    if word == "read":
        return not rest
    return word == "write" and len(rest) == 1 and is_contents(rest[0])


def new_table():
    """Return the first table: a tuple of 8 blocks, all their values 0."""
    return ((0,) * CELLS,) * BLOCKS


def answer_of(table, request):
    """Return the answer to the request when this is the table."""
    if request[0] == "read":
        return ("ok", table[request[1]])
    return ("ok", None)


def after_request(table, request):
    """Return the table behind the request."""
    if request[0] == "read":
        return table
    _, block, contents = request
    return table[:block] + (contents,) + table[block + 1:]
