"""What is needed: acts that break a promise in a world that leaves out one thing."""

from ringbound.driver import JOURNAL, ORDER, PHASE, WAITING, ZEROS
from ringbound.errors import NotValid
from ringbound.judge import log_fault, moment_fault, row_fault
from ringbound.rings import COMPLETIONS, completion, slot_of
from ringbound.values import is_integer
from ringbound.world import World

V = (5, 6, 7, 8)


def fault_of(world):
    """Return "lent", "moment", "row" or "": the fault of the world, for its device 0."""
    log = world.memory.log()
    rows = world.drivers[0].rows()
    if log_fault(log)[0] != "":
        return "lent"
    if moment_fault(rows, log, 0) != -1:
        return "moment"
    if not world.is_liar(0) and row_fault(rows, log, 0)[0] != "":
        return "row"
    return ""


def breaking(place):
    """Return the tuple (requests, acts) which breaks a world that leaves out this place, from 1 to 5."""
    # True and False are not used as integers.
    if not is_integer(place):
        raise NotValid()
    if place in (WAITING, PHASE):
        return [[("write", 0, (k, 2, 3, 4)) for k in range(6)], []], rounds(220)
    if place == ZEROS:
        return break_zeros()
    if place == JOURNAL:
        return break_journal()
    if place == ORDER:
        return [[("read", 0)], []], rounds(60)
    raise NotValid()


def break_zeros():
    """The device says that a read is done for which it has written nothing into the buffer."""
    requests = [[("write", 0, V), ("write", 1, V), ("write", 2, V), ("read", 3)], []]
    world = World(requests, ZEROS)
    sent = play_until_sent(world, 3)
    driver = world.drivers[0]
    tags = [tag for tag, index, _ in driver.under_way() if index == 3]
    number = driver.completions
    lie = ("dma write", COMPLETIONS, slot_of(number), completion(tags[0], number))
    turns = [("guard", 0), ("driver", 0)] * 60
    return requests, [*sent, ("lie", 0, lie), *turns]


def break_journal():
    """The device has committed a write, but is reset before it says so."""
    requests = [[("write", 0, V)], []]
    sent = play_until_sent(World(requests), 0)
    committing = [("device", 0, 1)] + [("device", 0, 2)] * 5
    resetting = [("driver", 0), ("guard", 0)] * 260
    return requests, [*sent, *committing, *resetting, *rounds(80)]


def acts_of_round(n):
    """Return the acts of the round with this number."""
    return [("guard", 0), ("driver", 0), ("device", 0, n)]


def rounds(many):
    """Return the acts of so many rounds, from the first one on."""
    acts = []
    for n in range(many):
        acts.extend(acts_of_round(n))
    return acts


def play_until_sent(world, index):
    """Play rounds until the request of device 0 with this index is under way; return their acts."""
    acts = []
    n = 0
    while index not in [sent for _, sent, _ in world.drivers[0].under_way()]:
        acts.extend(acts_of_round(n))
        world.play(acts_of_round(n))
        n += 1
    return acts
