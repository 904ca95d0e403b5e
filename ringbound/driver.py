"""The driver of a device: it hands requests to the device by the rings, access by access."""

from ringbound.accesses import fill_frame, hand_over, lend_rings, read_frame, renew_rings, ring_cell, take_back
from ringbound.clients import Clients
from ringbound.guard import CELLS
from ringbound.memory import acknowledge, interrupt, ready, reset
from ringbound.rings import COMPLETIONS, SUBMISSIONS, TAGS, buffer_page, is_completion, is_new_completion

POOL = (2, 3, 4, 5)
MOST_UNDER_WAY = 3
MOST_ACCESSES = 200
MOST_READINGS = 100
MOST_PATIENCE = 4
# What a driver can leave out.
WAITING = 1
ZEROS = 2
PHASE = 3
JOURNAL = 4
ORDER = 5


class Sending:
    """A request on its way: where it stands in the rings and which frame is its buffer."""

    def __init__(self, index, request, sequence, tag, frame):
        self.index = index
        self.request = request
        self.sequence = sequence
        self.tag = tag
        self.frame = frame
        # How many accesses the driver had made with the doorbell.
        self.rung = 0

    def is_read(self):
        """True if the request is a read."""
        return self.request[0] == "read"


class Driver:
    """The requests of one device's clients, and the tasks that bring them to an answer."""

    def __init__(self, memory, device, requests, without=0):
        self.generation = 0
        self.completions = 0
        self.resets = 0
        self.broken = False
        self._memory = memory
        self._device = device
        self._without = without
        self._clients = Clients(requests)
        self._unsent = list(range(len(requests)))
        # By tag.
        self._under_way = {}
        self._free = list(POOL)
        self._sequence = 0
        self._patience = 0
        self._is_wrong = False
        self._made = 0
        # The task: the sending that it is about, the accesses that are left of its part, the results of
        # those that were made, and the method that goes on behind them; then what it waits for.
        self._sending = None
        self._contents = None
        self._left = []
        self._results = []
        self._then = None
        self._ticket = 0
        self._behind = None
        self._readings = 0
        self._make(lend_rings(device), self._rest)

    def step(self):
        """Make a step; return True if an access was made, otherwise False."""
        if not self._left:
            self._choose()
        if not self._left:
            return False
        result, number = self._memory.access(("driver", self._device), self._left.pop(0))
        self._made += 1
        self._results.append(result)
        if not self._left:
            self._then(self._results, number)
        return True

    def rows(self):
        """Return a new list of the tuples (index, request, answer, first, last, sendings) of what was begun."""
        return self._clients.rows()

    def under_way(self):
        """Return a new list of the tuples (tag, index, frame), ascending."""
        return [(sending.tag, sending.index, sending.frame) for sending in self._sendings()]

    def free_frames(self):
        """Return a new list of the frames of the pool that no request has, ascending."""
        return list(self._free)

    def is_done(self):
        """True if every request has an answer."""
        return self._clients.is_done()

    def _sendings(self):
        """Return the sendings of the requests under way, by tag."""
        return [self._under_way[tag] for tag in sorted(self._under_way)]

    def _make(self, requests, then):
        """Make these accesses next; then is called with their results and the number of the last one."""
        self._left = list(requests)
        self._results = []
        self._then = then

    def _rest(self, results, number):
        """The task ends without anything more."""

    def _choose(self):
        """Begin the next task, if there is one."""
        if self.broken:
            return
        if self._must_reset():
            self._begin_reset()
        elif self._may_send():
            self._begin_sending()
        elif self._under_way:
            self._make([("read", interrupt(self._device))], self._take_interrupt)

    def _must_reset(self):
        """True if the device has lied or takes too long."""
        return self._is_wrong or any([self._made - sending.rung > MOST_ACCESSES for sending in self._sendings()])

    def _may_send(self):
        """True if there is a next request which need not wait."""
        if not self._unsent or len(self._under_way) >= MOST_UNDER_WAY:
            return False
        request = self._clients.request_at(self._unsent[0])
        if request[0] == "read":
            return True
        # Nothing is sent before a request that waits: no write of this block stands before the next one unsent.
        others = [sending.request for sending in self._sendings() if not sending.is_read()]
        return request[1] not in [other[1] for other in others]

    def _begin_sending(self):
        index = self._unsent.pop(0)
        request = self._clients.request_at(index)
        tags = [tag for tag in range(TAGS) if tag not in self._under_way]
        tag = tags[0]
        frame = self._free.pop(0)
        self._sending = Sending(index, request, self._sequence, tag, frame)
        # The step that begins the task makes its first access, too.
        self._clients.begin(index, self._memory.count + 1)
        filling = fill_frame(self._device, frame, self._first_contents(request))
        self._make(filling + hand_over(self._device, tag, frame, request, self._sequence), self._end_sending)

    def _first_contents(self, request):
        """Return what is written into the frame before it is lent."""
        if request[0] == "write":
            return request[2]
        return () if self._without == ZEROS else (0,) * CELLS

    def _end_sending(self, results, number):
        sending = self._sending
        sending.rung = self._made
        self._under_way[sending.tag] = sending
        self._sequence += 1
        place = (self.generation, sending.sequence, sending.tag, sending.frame)
        self._clients.end_sending(sending.index, place)

    def _take_interrupt(self, results, number):
        look = ("read", ring_cell(self._device, COMPLETIONS, self.completions))
        if results[0] == 1:
            self._make([("write", interrupt(self._device), 0), look], self._take_completion)
            return
        self._patience += 1
        if self._patience == MOST_PATIENCE:
            self._make([look], self._take_completion)

    def _take_completion(self, results, number):
        self._patience = 0
        found = results[-1]
        if not self._is_new(found):
            return
        # A value that is new has the word "done": this belongs to its form.
        tag = found[0]
        if tag in self._under_way:
            self._begin_finishing(self._under_way[tag])
        else:
            self._is_wrong = True

    def _is_new(self, found):
        """True if what stands in the completion slot is new."""
        if self._without == PHASE:
            return is_completion(found)
        return is_new_completion(found, self.completions)

    def _begin_finishing(self, sending):
        self._sending = sending
        self._contents = None
        if not sending.is_read():
            self._take_back([buffer_page(sending.tag)], self._finish)
        elif self._without == ORDER:
            self._make(read_frame(self._device, sending.frame), self._take_back_late)
        else:
            self._take_back([buffer_page(sending.tag)], self._read_contents)

    def _take_back_late(self, results, number):
        """The contents were read while the frame was lent, which is what a driver without the order does."""
        self._contents = tuple(results)
        self._take_back([buffer_page(self._sending.tag)], self._finish)

    def _read_contents(self, number):
        self._make(read_frame(self._device, self._sending.frame), self._take_contents)

    def _take_contents(self, results, number):
        self._contents = tuple(results)
        self._finish(number)

    def _finish(self, number):
        """The request of the sending is answered by the access with this number."""
        sending = self._sending
        self._clients.settle(sending.index, ("ok", self._contents), number)
        self._free = sorted([*self._free, sending.frame])
        del self._under_way[sending.tag]
        self.completions += 1

    def _take_back(self, pages, behind):
        """Take the pages back; behind is called with the number of the access that shows that they are."""
        self._behind = behind
        self._make(take_back(self._device, pages), self._take_ticket)

    def _take_ticket(self, results, number):
        self._ticket = results[-1]
        if self._without == WAITING:
            self._behind(number)
        else:
            self._look_for_ticket()

    def _look_for_ticket(self):
        self._make([("read", acknowledge(self._device))], self._take_acknowledge)

    def _take_acknowledge(self, results, number):
        if results[0] >= self._ticket:
            self._behind(number)
        else:
            self._look_for_ticket()

    def _begin_reset(self):
        self._is_wrong = False
        buffers = [buffer_page(sending.tag) for sending in self._sendings()]
        self._take_back([SUBMISSIONS, COMPLETIONS, *buffers], self._ask_for_reset)

    def _ask_for_reset(self, number):
        self._free = list(POOL)
        self._readings = 0
        asking = [("write", reset(self._device), self.generation + 1), ("read", ready(self._device))]
        self._make(asking, self._take_ready)

    def _take_ready(self, results, number):
        self._readings += 1
        if results[-1] == self.generation + 1:
            self._make([("journal",)], self._take_journal)
        elif self._readings < MOST_READINGS:
            self._make([("read", ready(self._device))], self._take_ready)
        else:
            self._break(number)

    def _break(self, number):
        """The device does not answer: this reading of the ready register was the last access."""
        self.broken = True
        self._under_way = {}
        self._clients.break_off(number)

    def _take_journal(self, results, number):
        """The writes under way that the journal has are done; all else under way is to be sent again."""
        journal = () if self._without == JOURNAL else results[0]
        again = []
        for sending in self._sendings():
            if not sending.is_read() and (self.generation, sending.sequence) in journal:
                self._clients.settle(sending.index, ("ok", None), number)
            else:
                again.append(sending.index)
        # What is sent again was sent in its order, before all that has not been sent.
        self._unsent = sorted(again) + self._unsent
        self._under_way = {}
        self._make(renew_rings(self._device), self._end_reset)

    def _end_reset(self, results, number):
        self.generation += 1
        self.resets += 1
        self.completions = 0
        self._sequence = 0
        self._patience = 0
