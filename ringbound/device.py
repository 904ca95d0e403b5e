"""An honest device: it takes descriptors from its ring and does what they ask for, access by access."""

from ringbound.guard import CELLS
from ringbound.memory import interrupt, ready, reset
from ringbound.rings import COMPLETIONS, SUBMISSIONS, buffer_page, completion, is_new_descriptor, slot_of
from ringbound.values import is_integer

MOST_JOBS = 2
# A choice modulo this tells what is done, the choice divided by it for which job.
WAYS = 4


def is_refused(request, result):
    """True if the result of the access says that the guard has not allowed it."""
    # None alone says nothing: it is also the result of a commit.
    return result is False or (request[0] == "dma read" and result is None)


class Job:
    """A descriptor that was taken in a generation, and how far it has come."""

    def __init__(self, descriptor, generation):
        self.descriptor = descriptor
        self._generation = generation
        self._made = 0
        self._contents = ()

    def is_through(self):
        """True if only the completion is left: the buffer's cells and the block have had their accesses."""
        return self._made > CELLS

    def next_access(self):
        """Return the access by which the job goes on, as long as it is not through."""
        tag, kind, block, _, sequence = self.descriptor
        page = buffer_page(tag)
        if kind == "write":
            if self._made < CELLS:
                return ("dma read", page, self._made)
            return ("commit", block, self._contents, self._generation, sequence)
        if self._made == 0:
            return ("fetch", block, self._generation, sequence)
        index = self._made - 1
        return ("dma write", page, index, self._contents[index])

    def go_on(self, result):
        """Take the result of the access that was made and not refused."""
        self._made += 1
        # Only what gives contents has a tuple as its result: a dma read one value, a fetch all four.
        if type(result) is tuple:
            self._contents = self._contents + result


class Device:
    """An honest device: its generation, its jobs, and what it has taken and completed."""

    def __init__(self, memory, device):
        self.generation = 0
        self.taken = 0
        self.completed = 0
        self._memory = memory
        self._device = device
        self._jobs = []
        self._pending = None

    def step(self, choice):
        """Make a step; return True if an access was made, otherwise False."""
        way = choice % WAYS
        many = len(self._jobs)
        if self._pending is not None:
            self._make(self._pending)
            self._pending = None
        elif way == 0:
            self._look_for_reset()
        elif many == 0 or (way == 1 and many < MOST_JOBS):
            self._look_for_descriptor()
        else:
            self._go_on(choice // WAYS % many)
        # An honest device always finds something to do: each of the ways above is one access.
        return True

    def jobs(self):
        """Return a new list of the descriptors of the jobs, the elder first."""
        return [job.descriptor for job in self._jobs]

    def _make(self, request):
        """Make the access and return its result."""
        result, _ = self._memory.access(("device", self._device), request)
        return result

    def _look_for_reset(self):
        """Read the reset register, and begin the generation that it asks for, if it is another one."""
        asked = self._make(("read", reset(self._device)))
        # What is no number at all is no other number: the driver may write any value.
        if not is_integer(asked) or asked == self.generation:
            return
        self.generation = asked
        self.taken = 0
        self.completed = 0
        self._jobs = []
        self._pending = ("write", ready(self._device), asked)

    def _look_for_descriptor(self):
        """Read the slot of the next descriptor, and take it if it is new."""
        found = self._make(("dma read", SUBMISSIONS, slot_of(self.taken)))
        if found is None or not is_new_descriptor(found[0], self.taken):
            return
        self._jobs.append(Job(found[0], self.generation))
        self.taken += 1

    def _go_on(self, index):
        """Make the next access of the job with this index."""
        job = self._jobs[index]
        if job.is_through():
            self._complete(index)
            return
        request = job.next_access()
        result = self._make(request)
        if is_refused(request, result):
            del self._jobs[index]
        else:
            job.go_on(result)

    def _complete(self, index):
        """Write the completion of the job with this index, which ends with this, even if it is refused."""
        entry = completion(self._jobs[index].descriptor[0], self.completed)
        is_written = self._make(("dma write", COMPLETIONS, slot_of(self.completed), entry))
        del self._jobs[index]
        if is_written:
            self.completed += 1
            self._pending = ("write", interrupt(self._device), 1)
