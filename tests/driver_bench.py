"""A driver that is played step by step, and the accesses that the document tells of its tasks."""

from ringbound.driver import Driver
from ringbound.memory import Memory, acknowledge, doorbell, frame_cell, interrupt, ready, reset, table_word

V = (5, 6, 7, 8)
ZEROS = (0, 0, 0, 0)


def lends(d):
    return [("write", table_word(d, 0), (0, "r")), ("write", table_word(d, 1), (1, "w"))]


def fills(d, frame, contents):
    return [("write", frame_cell(d, frame, index), contents[index]) for index in range(len(contents))]


def hands_over(d, request, tag, frame, sequence):
    phase = 1 if sequence // 4 % 2 == 0 else 0
    return [
        ("write", table_word(d, 2 + tag), (frame, "w" if request[0] == "read" else "r")),
        ("write", frame_cell(d, 0, sequence % 4), (tag, request[0], request[1], phase, sequence)),
        ("write", doorbell(d), sequence + 1),
    ]


def sends(d, request, tag, frame, sequence):
    contents = request[2] if request[0] == "write" else ZEROS
    return fills(d, frame, contents) + hands_over(d, request, tag, frame, sequence)


def asks(d):
    return [("read", interrupt(d))]


def hears(d, number):
    """A poll with an interrupt."""
    return [*asks(d), ("write", interrupt(d), 0), *looks(d, number)]


def looks(d, number):
    return [("read", frame_cell(d, 1, number % 4))]


def waits(d):
    return [("read", acknowledge(d))]


def takes_back(d, *pages):
    return [("write", table_word(d, page), None) for page in pages] + [("command", page) for page in pages]


def reads(d, frame):
    return [("read", frame_cell(d, frame, index)) for index in range(4)]


def asks_for_reset(d, generation):
    return [("write", reset(d), generation), ("read", ready(d))]


def renews(d):
    return [*fills(d, 0, [None] * 4), *fills(d, 1, [None] * 4), *lends(d), ("write", interrupt(d), 0)]


class Bench:
    """A memory, the driver of one of its devices, and the hands of the device and the guard."""

    def __init__(self, case, requests, d=0, without=0):
        self.case = case
        self.d = d
        self.memory = Memory()
        self.driver = Driver(self.memory, d, requests, without)

    def step(self):
        """Make a step; return the request of the one access that it makes, and its result."""
        before = self.memory.count
        self.case.assertIs(self.driver.step(), True)
        self.case.assertEqual(self.memory.count, before + 1)
        number, actor, request, result = self.memory.log()[-1]
        self.case.assertEqual((number, actor), (before + 1, ("driver", self.d)))
        return request, result

    def expect(self, *told):
        """The next steps make these accesses."""
        for at, request in enumerate(told):
            self.case.assertEqual(self.step()[0], request, f"access {at} of {len(told)}")

    def rests(self):
        """The driver has nothing to do."""
        before = self.memory.log()
        for _ in range(3):
            self.case.assertIs(self.driver.step(), False)
        self.case.assertEqual(self.memory.log(), before)

    def device(self, *request):
        return self.memory.access(("device", self.d), request)[0]

    def guard(self):
        """The guard takes all commands."""
        while self.memory.access(("guard", self.d), ("drop",))[0]:
            pass

    def rings(self):
        """The ring pages are lent, and the bench has seen it."""
        self.expect(*lends(self.d))

    def complete(self, tag, number, values=None):
        """The device completes the request with this tag, and tells so by an interrupt."""
        for index, value in enumerate(values or ()):
            self.case.assertTrue(self.device("dma write", 2 + tag, index, value))
        self.put(number, (tag, "done", 1 if number // 4 % 2 == 0 else 0))
        self.device("write", interrupt(self.d), 1)

    def put(self, number, value):
        """Put the value into the completion slot of this number."""
        self.case.assertTrue(self.device("dma write", 1, number % 4, value))

    def finish(self, tag, number, values=None):
        """The device completes the request, and the driver answers it."""
        self.complete(tag, number, values)
        self.expect(*hears(self.d, number), *takes_back(self.d, 2 + tag))
        self.guard()
        self.expect(*waits(self.d))
        if values is not None:
            self.expect(*reads(self.d, 2 + tag))

    def poll_until(self, made):
        """Poll without an interrupt, until so many accesses were made; return the requests."""
        return [self.step()[0] for _ in range(made)]

    def answers(self):
        return {row[0]: row[2] for row in self.driver.rows()}

    def fields(self):
        driver = self.driver
        return (driver.generation, driver.completions, driver.resets, driver.broken)
