"""The guard of a device: the words of its table that it keeps, and the commands to drop them."""

from ringbound.values import is_number

DEVICES = 2
PAGES = 6
FRAMES = 6
CELLS = 4
RIGHTS = ("r", "w")


def is_word(value):
    """True if a table word may be so: None, or a tuple (frame, right) with a frame that exists."""
    if value is None:
        return True
    if type(value) is not tuple or len(value) != 2:
        return False
    frame, right = value
    return is_number(frame, FRAMES) and type(right) is str and right in RIGHTS


class Guard:
    """The entries, the queue and the tickets of one device."""

    def __init__(self):
        self._entries = {}
        self._queue = []
        self._tickets = 0

    def use(self, page, right, word):
        """Return the frame to which the page leads for this right, or None if that is not allowed."""
        if page not in self._entries and word is not None:
            self._entries[page] = word
        entry = self._entries.get(page)
        if entry is None:
            return None
        frame, allowed = entry
        return frame if allowed == right else None

    def command(self, page):
        """Ask for the dropping of the page's entry; return the ticket."""
        self._tickets += 1
        self._queue.append((page, self._tickets))
        return self._tickets

    def drop(self):
        """Carry out the first command; return its ticket, or None if no command waits."""
        if not self._queue:
            return None
        page, ticket = self._queue.pop(0)
        self._entries.pop(page, None)
        return ticket

    def entries(self):
        """Return a new list of the tuples (page, word), ascending."""
        return [(page, self._entries[page]) for page in sorted(self._entries)]

    def queue(self):
        """Return a new list of the tuples (page, ticket) that wait, the first one first."""
        return list(self._queue)
