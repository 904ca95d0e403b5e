"""The memory, the storage and the accesses that are made to them."""

from ringbound.errors import NotValid
from ringbound.guard import CELLS, DEVICES, FRAMES, PAGES, Guard, is_word
from ringbound.values import is_integer, is_number, is_value

BLOCKS = 8
RING_FRAMES = 2
REGISTERS = 4
# For each access: the actors that make it, and the kinds of the parts behind its word.
FORMS = {
    "read": (("driver", "device"), ("integer",)),
    "write": (("driver", "device"), ("integer", "value")),
    "dma read": (("device",), ("page", "index")),
    "dma write": (("device",), ("page", "index", "value")),
    "command": (("driver",), ("page",)),
    "drop": (("guard",), ()),
    "fetch": (("device",), ("block", "integer", "integer")),
    "commit": (("device",), ("block", "values", "integer", "integer")),
    "journal": (("driver",), ()),
    "tell": (("device",), ("rows",)),
}


def frame_cell(device, frame, index):
    """Return the number of the cell with this index of the frame."""
    return (device * FRAMES + frame) * CELLS + index


def doorbell(device):
    """Return the number of the doorbell register."""
    # Here and below, DEVICES as a device is the first one that does not exist:
    # its first cell would stand right behind a part, which is where the next part begins.
    return frame_cell(DEVICES, 0, 0) + device * REGISTERS


def reset(device):
    """Return the number of the reset register."""
    return doorbell(device) + 1


def ready(device):
    """Return the number of the ready register."""
    return doorbell(device) + 2


def interrupt(device):
    """Return the number of the interrupt register."""
    return doorbell(device) + 3


def table_word(device, page):
    """Return the number of the cell of the page's table word."""
    return doorbell(DEVICES) + device * PAGES + page


def acknowledge(device):
    """Return the number of the cell of the acknowledge word."""
    return table_word(DEVICES, 0) + device


def first_cells():
    """Return the values of all cells of a new memory."""
    cells = [0] * acknowledge(DEVICES)
    for device in range(DEVICES):
        for frame in range(RING_FRAMES):
            for index in range(CELLS):
                cells[frame_cell(device, frame, index)] = None
        for page in range(PAGES):
            cells[table_word(device, page)] = None
    return cells


def is_tuple_of_values(part):
    """True if the part is a tuple of values, of any length."""
    return type(part) is tuple and is_value(part)


def fits(kind, part):
    """True if the part of a request is of this kind."""
    if kind == "page":
        return is_number(part, PAGES)
    if kind == "index":
        return is_number(part, CELLS)
    if kind == "block":
        return is_number(part, BLOCKS)
    if kind == "value":
        return is_value(part)
    if kind == "values":
        return is_tuple_of_values(part) and len(part) == CELLS
    if kind == "rows":
        return is_tuple_of_values(part)
    return is_integer(part)


def is_actor(actor):
    """True if the actor is a tuple of a role and a device; FORMS tells whether the role exists."""
    if type(actor) is not tuple or len(actor) != 2:
        return False
    role, device = actor
    return type(role) is str and is_number(device, DEVICES)


def has_form(role, request):
    """True if the request is an access of this role, with parts of the right kinds."""
    if type(request) is not tuple or not request:
        return False
    word, *parts = request
    if type(word) is not str or word not in FORMS:
        return False
    roles, kinds = FORMS[word]
    if role not in roles or len(parts) != len(kinds):
        return False
    return all([fits(kind, part) for kind, part in zip(kinds, parts)])


def stands_in(cell, first, many):
    """True if the cell is one of so many cells from the first one on."""
    return first <= cell < first + many


def is_register(device, cell):
    """True if the cell is a register of the device."""
    return stands_in(cell, doorbell(device), REGISTERS)


def is_table_word(device, cell):
    """True if the cell is a word of the device's table."""
    return stands_in(cell, table_word(device, 0), PAGES)


def may_reach(role, device, cell):
    """True if the driver or the device may read and write the cell."""
    if role == "device":
        return is_register(device, cell)
    is_frame_cell = stands_in(cell, frame_cell(device, 0, 0), FRAMES * CELLS)
    is_word_cell = is_table_word(device, cell) or cell == acknowledge(device)
    return is_frame_cell or is_register(device, cell) or is_word_cell


def is_allowed(actor, request):
    """True if the actor may make this access."""
    if not is_actor(actor):
        return False
    role, device = actor
    if not has_form(role, request):
        return False
    if request[0] not in ("read", "write"):
        return True
    cell = request[1]
    if not may_reach(role, device, cell):
        return False
    if request[0] == "write" and is_table_word(device, cell):
        return is_word(request[2])
    return True


class Memory:
    """The cells and the storage of both devices, their guards, and the log of the accesses."""

    def __init__(self):
        self.count = 0
        self.guards = [Guard() for device in range(DEVICES)]
        self._cells = first_cells()
        self._blocks = [[(0,) * CELLS] * BLOCKS for device in range(DEVICES)]
        self._journals = [()] * DEVICES
        self._log = []

    def access(self, actor, request):
        """Make an access; return the tuple of its result and its number."""
        if not is_allowed(actor, request):
            raise NotValid()
        result = self._result_of(actor[1], request)
        self.count += 1
        self._log.append((self.count, actor, request, result))
        return result, self.count

    def peek(self, cell):
        """Return the value of the cell, without an access."""
        if not is_number(cell, len(self._cells)):
            raise NotValid()
        return self._cells[cell]

    def block(self, device, block):
        """Return the values of a block of the device's storage, without an access."""
        if not is_number(device, DEVICES) or not is_number(block, BLOCKS):
            raise NotValid()
        return self._blocks[device][block]

    def journal(self, device):
        """Return the journal of the device's storage, without an access."""
        if not is_number(device, DEVICES):
            raise NotValid()
        return self._journals[device]

    def log(self):
        """Return a new list of the tuples (number, actor, request, result) of all accesses."""
        return list(self._log)

    def _result_of(self, device, request):
        """Do what the request of this device's actor asks for, and return the result."""
        match request:
            case ("read", cell):
                return self._cells[cell]
            case ("write", cell, value):
                self._cells[cell] = value
            case ("dma read", page, index):
                return self._dma_read(device, page, index)
            case ("dma write", page, index, value):
                return self._dma_write(device, page, index, value)
            case ("command", page):
                return self.guards[device].command(page)
            case ("drop",):
                return self._drop(device)
            case ("fetch", block, _, _):
                return self._blocks[device][block]
            case ("commit", block, values, generation, sequence):
                self._blocks[device][block] = values
                self._journals[device] = (*self._journals[device], (generation, sequence))
            case ("journal",):
                return self._journals[device]
            case ("tell", rows):
                self._journals[device] = rows
        return None

    def _dma_cell(self, device, page, index, right):
        """Return the number of the cell that the guard lets the device use, or None."""
        word = self._cells[table_word(device, page)]
        frame = self.guards[device].use(page, right, word)
        return None if frame is None else frame_cell(device, frame, index)

    def _dma_read(self, device, page, index):
        cell = self._dma_cell(device, page, index, "r")
        return None if cell is None else (self._cells[cell],)

    def _dma_write(self, device, page, index, value):
        cell = self._dma_cell(device, page, index, "w")
        if cell is None:
            return False
        self._cells[cell] = value
        return True

    def _drop(self, device):
        ticket = self.guards[device].drop()
        if ticket is None:
            return False
        self._cells[acknowledge(device)] = ticket
        return True
