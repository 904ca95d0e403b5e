"""What a log tells: when pages were lent, and which cells of frames were used."""

from ringbound.guard import CELLS, DEVICES, FRAMES, PAGES, Guard
from ringbound.memory import acknowledge, frame_cell, is_table_word, stands_in, table_word
from ringbound.values import is_integer


class Lending:
    """A frame that is lent to a device by a word of its table, and how far its return has come."""

    def __init__(self, device, page, word, begin):
        self.device = device
        self.end = None
        self._page = page
        self._word = word
        self._begin = begin
        self._is_taken_back = False
        self._ticket = None

    def notice(self, number, request, result):
        """Take an access of the driver into account, behind the one that began the lending."""
        if self._ticket is not None:
            is_look = request == ("read", acknowledge(self.device))
            if is_look and is_integer(result) and result >= self._ticket:
                self.end = number
        elif self._is_taken_back:
            if request == ("command", self._page):
                self._ticket = result
        elif request == ("write", table_word(self.device, self._page), None):
            self._is_taken_back = True

    def told(self):
        """Return the tuple (device, page, frame, right, from, to)."""
        frame, right = self._word
        return (self.device, self._page, frame, right, self._begin, self.end)


def is_lent_by(device, request):
    """True if the driver of this device lends a frame by the access."""
    return request[0] == "write" and is_table_word(device, request[1]) and request[2] is not None


def find_lendings(log):
    """Return the list of the lendings, by the number of the access that began them."""
    found = []
    for number, (role, device), request, result in log:
        if role != "driver":
            continue
        for lending in found:
            if lending.device == device and lending.end is None:
                lending.notice(number, request, result)
        if is_lent_by(device, request):
            found.append(Lending(device, request[1] - table_word(device, 0), request[2], number))
    return [lending.told() for lending in found]


def is_within(number, lending):
    """True if the access stands between the beginning and the end of the lending, if it has one."""
    _, _, _, _, begin, end = lending
    return begin < number and (end is None or number < end)


class Replay:
    """The tables and the guards of both devices, as the accesses have made them."""

    def __init__(self):
        self._guards = [Guard() for device in range(DEVICES)]
        self._tables = [[None] * PAGES for device in range(DEVICES)]

    def use_by(self, actor, request, result):
        """Make the access; return the tuple (right, frame, index, value) if it used a cell of a frame, or None."""
        _, device = actor
        match request:
            case ("dma read", page, index):
                frame = self._frame_of(device, page, "r")
                return None if result is None else ("r", frame, index, result[0])
            case ("dma write", page, index, value):
                frame = self._frame_of(device, page, "w")
                return ("w", frame, index, value) if result else None
            case ("command", page):
                self._guards[device].command(page)
            case ("drop",):
                self._guards[device].drop()
            case ("read", cell):
                return frame_use(device, cell, "r", result)
            case ("write", cell, value):
                if is_table_word(device, cell):
                    self._tables[device][cell - table_word(device, 0)] = value
                return frame_use(device, cell, "w", value)
        return None

    def _frame_of(self, device, page, right):
        """Return the frame to which the guard lets a dma go, or None."""
        return self._guards[device].use(page, right, self._tables[device][page])


def frame_use(device, cell, right, value):
    """Return the tuple (right, frame, index, value) if the cell belongs to a frame of the device, or None."""
    first = frame_cell(device, 0, 0)
    if not stands_in(cell, first, FRAMES * CELLS):
        return None
    return (right, (cell - first) // CELLS, (cell - first) % CELLS, value)


def find_uses(log):
    """Return the list of the tuples (number, actor, right, frame, index, value) of the uses of frames' cells."""
    replay = Replay()
    found = []
    for number, actor, request, result in log:
        use = replay.use_by(actor, request, result)
        if use is not None:
            found.append((number, actor, *use))
    return found
