"""The accesses of a driver's tasks: lists of the requests that it makes one after the other."""

from ringbound.guard import CELLS
from ringbound.memory import doorbell, frame_cell, interrupt, table_word
from ringbound.rings import COMPLETIONS, SLOTS, SUBMISSIONS, buffer_page, descriptor, slot_of

# The words of the pages 0 and 1; these pages lead to the frames of the same numbers.
RING_WORDS = ((0, "r"), (1, "w"))


def ring_cell(device, page, number):
    """Return the number of the cell of the entry with this number, in the ring with this page."""
    return frame_cell(device, page, slot_of(number))


def lend_rings(device):
    """Lend the pages of both rings."""
    return [("write", table_word(device, page), word) for page, word in enumerate(RING_WORDS)]


def fill_frame(device, frame, contents):
    """Write the contents into the cells of the frame, ascending."""
    return [("write", frame_cell(device, frame, index), value) for index, value in enumerate(contents)]


def read_frame(device, frame):
    """Read the cells of the frame, ascending."""
    return [("read", frame_cell(device, frame, index)) for index in range(CELLS)]


def hand_over(device, tag, frame, request, sequence):
    """Lend the frame, which has its contents, and tell the device of the request."""
    kind, block = request[0], request[1]
    right = "w" if kind == "read" else "r"
    return [
        ("write", table_word(device, buffer_page(tag)), (frame, right)),
        ("write", ring_cell(device, SUBMISSIONS, sequence), descriptor(tag, kind, block, sequence)),
        ("write", doorbell(device), sequence + 1),
    ]


def take_back(device, pages):
    """Take the words of the pages back, and ask the guard to drop its entries; the last result is a ticket."""
    words = [("write", table_word(device, page), None) for page in pages]
    return words + [("command", page) for page in pages]


def renew_rings(device):
    """Empty both rings, lend them again and forget the interrupt."""
    slots = (None,) * SLOTS
    return [
        *fill_frame(device, SUBMISSIONS, slots),
        *fill_frame(device, COMPLETIONS, slots),
        *lend_rings(device),
        ("write", interrupt(device), 0),
    ]
