"""The world: a memory, two drivers, two devices and their guards, played by acts."""

from ringbound.device import Device
from ringbound.driver import Driver
from ringbound.errors import NotValid
from ringbound.guard import DEVICES
from ringbound.memory import Memory, interrupt, is_allowed, ready
from ringbound.requests import is_request
from ringbound.values import is_integer, is_number

# Nothing, or one of the things that a driver can leave out.
OMISSIONS = 6
LIES = ("dma read", "dma write", "commit", "fetch", "tell")


def are_requests(value):
    """True if the value is a list of a list of requests for each device."""
    if not isinstance(value, list) or len(value) != DEVICES:
        return False
    return all([isinstance(part, list) and all([is_request(request) for request in part]) for part in value])


def names_device(act):
    """True if the act is a tuple whose second part is a device."""
    return type(act) is tuple and len(act) > 1 and is_number(act[1], DEVICES)


def is_lie(device, request):
    """True if the request is an access by which this device may lie."""
    if not is_allowed(("device", device), request):
        return False
    if request[0] == "write":
        return request[1] in (ready(device), interrupt(device))
    return request[0] in LIES


class World:
    """All that is played together, and which devices have lied."""

    def __init__(self, requests, without=0):
        if not are_requests(requests) or not is_number(without, OMISSIONS):
            raise NotValid()
        self.memory = Memory()
        self.drivers = [Driver(self.memory, d, requests[d], without) for d in range(DEVICES)]
        self.devices = [Device(self.memory, d) for d in range(DEVICES)]
        self._liars = [False] * DEVICES

    def play(self, acts):
        """Play the acts; return the list that tells of each one whether it made an access."""
        return [self._play_act(act) for act in acts]

    def settle(self, rounds):
        """Play rounds until both drivers are done, at most so many; return True if they are done."""
        for n in range(rounds):
            if self._is_done():
                break
            for d in range(DEVICES):
                self.play([("guard", d), ("driver", d), ("device", d, n)])
        return self._is_done()

    def is_liar(self, d):
        """True if the device has lied."""
        return self._liars[d]

    def _is_done(self):
        """True if both drivers are done."""
        return all([driver.is_done() for driver in self.drivers])

    def _play_act(self, act):
        """Play the act; return True if it made an access, False if it cannot be done."""
        if not names_device(act):
            return False
        match act:
            case ("driver", d):
                return self.drivers[d].step()
            case ("device", d, choice):
                return self._play_device(d, choice)
            case ("guard", d):
                return self._play_guard(d)
            case ("lie", d, request):
                return self._play_lie(d, request)
        return False

    def _play_device(self, d, choice):
        if self._liars[d] or not is_integer(choice):
            return False
        return self.devices[d].step(choice)

    def _play_guard(self, d):
        # Without a command the guard's access would be counted all the same.
        if not self.memory.guards[d].queue():
            return False
        self.memory.access(("guard", d), ("drop",))
        return True

    def _play_lie(self, d, request):
        if not is_lie(d, request):
            return False
        self.memory.access(("device", d), request)
        self._liars[d] = True
        return True
