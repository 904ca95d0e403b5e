"""The rings: where an entry stands, what it is made of, and whether what stands there is new."""

from ringbound.errors import NotValid
from ringbound.memory import BLOCKS
from ringbound.values import is_integer, is_number

SLOTS = 4
TAGS = 4
SUBMISSIONS = 0
COMPLETIONS = 1
FIRST_BUFFER = 2
KINDS = ("read", "write")
DONE = "done"
PHASES = 2


def buffer_page(tag):
    """Return the page of the buffer of the request with this tag."""
    return tag + FIRST_BUFFER


def slot_of(number):
    """Return the slot in which the entry with this number stands."""
    return number % SLOTS


def phase_of(number):
    """Return the phase of the round to which the entry with this number belongs."""
    return 1 - number // SLOTS % 2


def is_tag(part):
    """True if the part is a tag."""
    return is_number(part, TAGS)


def is_order(tag, kind, block):
    """True if the parts of a descriptor that tell what is asked for are within their bounds."""
    return is_tag(tag) and type(kind) is str and kind in KINDS and is_number(block, BLOCKS)


def is_entry_number(part):
    """True if an entry may have this number."""
    return is_integer(part) and part >= 0


def has_phase(part, number):
    """True if the part is the phase of the entry with this number."""
    return is_integer(part) and part == phase_of(number)


def descriptor(tag, kind, block, sequence):
    """Return the descriptor that is the entry with the number sequence of the submission ring."""
    if not is_order(tag, kind, block) or not is_entry_number(sequence):
        raise NotValid()
    return (tag, kind, block, phase_of(sequence), sequence)


def completion(tag, number):
    """Return the completion that is the entry with this number of the completion ring."""
    if not is_tag(tag) or not is_entry_number(number):
        raise NotValid()
    return (tag, DONE, phase_of(number))


def is_new_descriptor(value, number):
    """True if the value is a descriptor that can be the entry with this number."""
    if type(value) is not tuple or len(value) != 5:
        return False
    tag, kind, block, phase, sequence = value
    if not is_order(tag, kind, block) or not is_entry_number(sequence):
        return False
    return has_phase(phase, number) and sequence == number


def is_completion(value):
    """True if the value is of the form of a completion, whatever its phase."""
    if type(value) is not tuple or len(value) != 3:
        return False
    tag, word, phase = value
    return is_tag(tag) and type(word) is str and word == DONE and is_number(phase, PHASES)


def is_new_completion(value, number):
    """True if the value is a completion that can be the entry with this number."""
    return is_completion(value) and value[2] == phase_of(number)
