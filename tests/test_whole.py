"""Point 1 over the whole program: drawn worlds, settled and judged."""

import random
import time
import unittest

from ringbound.judge import lendings, log_fault, moment_fault, row_fault
from ringbound.memory import interrupt, ready
from ringbound.needed import fault_of
from ringbound.requests import answer_of, new_table
from ringbound.world import World

ACTORS = ("driver", "device", "guard")


def draw_requests(drawn, most=12):
    blocks = drawn.choice((1, 2, 8))
    return [
        ("read", drawn.randrange(blocks)) if drawn.random() < 0.5
        else ("write", drawn.randrange(blocks), tuple(drawn.randrange(-9, 100) for _ in range(4)))
        for _ in range(drawn.randrange(most + 1))
    ]


def draw_acts(drawn, many, d):
    """Acts of one device's actors, each of them more or less busy; it is asked for a reset now and then."""
    weights = [drawn.random() + 0.2 for _ in ACTORS]
    acts = []
    while len(acts) < many:
        actor = drawn.choices(ACTORS, weights)[0]
        acts.append((actor, d, drawn.randrange(32)) if actor == "device" else (actor, d))
        if drawn.random() < 0.01:
            # A slow device: the driver goes on until it asks for a reset.
            acts.extend([("driver", d), ("guard", d)] * drawn.choice((210, 220, 250)))
    return acts


def never_silent(acts, d):
    """The acts, and a device among them that answers a reset before the driver gives up."""
    answering = []
    for many, act in enumerate(acts):
        answering.append(act)
        if many % 80 == 79:
            answering.extend([("device", d, 0)] * 3)
    return answering


def draw_lie(drawn, d):
    value = drawn.choice((0, 1, 7, None, "x", (0, "done", 1), (0, "read", 1, 1, 0)))
    completion = (drawn.randrange(4), "done", drawn.randrange(2))
    place = (drawn.randrange(3), drawn.randrange(9))
    return drawn.choice((
        ("dma read", drawn.randrange(6), drawn.randrange(4)),
        ("dma write", drawn.randrange(6), drawn.randrange(4), value),
        ("dma write", 1, drawn.randrange(4), completion),
        ("commit", drawn.randrange(8), (1, 2, 3, value), *place),
        ("fetch", drawn.randrange(8), *place),
        ("tell", tuple((drawn.randrange(3), drawn.randrange(9)) for _ in range(3))),
        ("write", ready(d), drawn.randrange(4)),
        ("write", interrupt(d), drawn.randrange(2)),
    ))


def mixed(drawn, *parts):
    """The acts of the parts, each in its order, drawn into one list."""
    left = [list(reversed(part)) for part in parts]
    acts = []
    while any(left):
        acts.append(drawn.choice([part for part in left if part]).pop())
    return acts


def accesses_of(world, d):
    return [(actor, request, result) for _, (actor, mine), request, result in world.memory.log() if mine == d]


class Worlds(unittest.TestCase):
    def check_honest(self, world, d, requests):
        """Each request ended with an answer and took effect exactly once, in its time."""
        log, rows = world.memory.log(), world.drivers[d].rows()
        self.assertEqual(row_fault(rows, log, d), ("", -1))
        self.assertEqual([row[1] for row in rows], requests)
        effects = {}
        for number, actor, request, result in log:
            if actor == ("device", d) and request[0] in ("commit", "fetch"):
                effects.setdefault(request[-2:], []).append((number, request, result))
        for _, request, answer, first, last, sendings in rows:
            mine = [effect for sending in sendings for effect in effects.get(sending[:2], [])]
            self.assertEqual(answer[0], "ok")
            if request[0] == "write":
                [(number, (_, block, values, _, _), _)] = mine
                self.assertEqual(((block, values), answer[1]), (request[1:], None))
                self.assertTrue(first < number < last)
            else:
                number, (_, block, _, _), values = mine[-1]
                self.assertEqual((block, values), (request[1], answer[1]))
                self.assertTrue(first < number < last)
        self.check_table(world, d, requests)

    def check_table(self, world, d, requests):
        """Writes of a block take effect in their order, so the last one stays."""
        for block in range(8):
            values = [request[2] for request in requests if request[:2] == ("write", block)]
            told = values[-1] if values else answer_of(new_table(), ("read", block))[1]
            self.assertEqual(world.memory.block(d, block), told)

    def check_any(self, world):
        """What holds whatever a device does."""
        log = world.memory.log()
        self.assertEqual(log_fault(log), ("", -1))
        for d in range(2):
            driver = world.drivers[d]
            self.assertEqual(moment_fault(driver.rows(), log, d), -1)
            self.assertEqual((driver.under_way(), driver.free_frames()), ([], [2, 3, 4, 5]))
            words = {row[2][0] for row in driver.rows()}
            self.assertLessEqual(words, {"ok", "broken"} if driver.broken else {"ok"})
        self.assertEqual(fault_of(world), "")

    def test_two_honest_devices(self):
        resets = sendings = 0
        for seed in range(150):
            drawn = random.Random(seed)
            requests = [draw_requests(drawn) for _ in range(2)]
            world = World(requests)
            parts = [never_silent(draw_acts(drawn, drawn.choice((0, 40, 300, 900)), d), d) for d in range(2)]
            acts = mixed(drawn, *parts)
            with self.subTest(seed=seed):
                answers = world.play(acts)
                self.assertEqual((len(answers), sum(answers)), (len(acts), world.memory.count))
                self.assertIs(world.settle(3000), True)
                self.check_any(world)
                for d in range(2):
                    self.assertIs(world.drivers[d].broken, False)
                    self.check_honest(world, d, requests[d])
                    resets += world.drivers[d].resets
                    sendings = max([sendings, *[len(row[5]) for row in world.drivers[d].rows()]])
        # Otherwise the draw would show nothing of resets.
        self.assertGreater(resets, 50)
        self.assertGreater(sendings, 2)

    def test_one_device_lies(self):
        broken = answered = 0
        for seed in range(150):
            drawn = random.Random(seed)
            d = seed % 2
            requests = [draw_requests(drawn) for _ in range(2)]
            world = World(requests)
            lies = [("lie", d, draw_lie(drawn, d)) for _ in range(drawn.randrange(1, 60))]
            part = draw_acts(drawn, drawn.choice((40, 400)), d)
            acts = mixed(drawn, mixed(drawn, part, lies), never_silent(draw_acts(drawn, 300, 1 - d), 1 - d))
            with self.subTest(seed=seed):
                world.play(acts)
                self.assertIs(world.is_liar(d), True)
                self.assertIs(world.settle(5000), True)
                self.assertIs(world.drivers[d].is_done(), True)
                self.check_any(world)
                self.check_honest(world, 1 - d, requests[1 - d])
                broken += world.drivers[d].broken
                answered += len([row for row in world.drivers[d].rows() if row[2][0] == "ok"])
        self.assertGreater(broken, 20)
        self.assertGreater(answered, 30)

    def test_what_one_device_does_never_reaches_the_other_one(self):
        for seed in range(60):
            drawn = random.Random(seed)
            requests = draw_requests(drawn)
            mine = draw_acts(drawn, 500, 0)
            alone = World([requests, []])
            alone.play(mine)
            told = (accesses_of(alone, 0), [row[:3] for row in alone.drivers[0].rows()])
            for others in range(3):
                lies = [("lie", 1, draw_lie(drawn, 1)) for _ in range(others * 100)]
                theirs = mixed(drawn, draw_acts(drawn, 500, 1), lies)
                world = World([requests, draw_requests(drawn)])
                world.play(mixed(drawn, mine, theirs))
                self.assertEqual((accesses_of(world, 0), [row[:3] for row in world.drivers[0].rows()]), told)

    def test_a_device_that_never_steps(self):
        requests = [("write", 0, (1, 2, 3, 4)), ("read", 0), ("write", 0, (5, 6, 7, 8)), ("read", 1)]
        world = World([requests, requests])
        world.play([("driver", 0), ("guard", 0)] * 1000)
        self.assertEqual((world.drivers[0].is_done(), world.drivers[0].broken), (True, True))
        self.assertIs(world.settle(500), True)
        self.assertEqual([row[2] for row in world.drivers[0].rows()], [("broken", None)] * 2)
        self.check_honest(world, 1, requests)

    def test_returned_lists_stay(self):
        world = World([[("write", 0, (1, 2, 3, 4)), ("read", 0)], []])
        world.settle(40)
        log, rows = world.memory.log(), world.drivers[0].rows()
        found = lendings(log)
        kept = (list(log), list(rows), list(found))
        world.settle(500)
        self.assertEqual((log, rows, found), kept)

    def test_within_seconds(self):
        drawn = random.Random(7)
        requests = [[("write", n % 3, (n, n, n, n)) if n % 4 else ("read", n % 3) for n in range(12)] for _ in range(2)]
        for without in range(6):
            start = time.monotonic()
            world = World(requests, without)
            world.play(mixed(drawn, *[draw_acts(drawn, 400, d) for d in range(2)]))
            # Behind the last answer rounds have devices and guards to play.
            world.settle(4000)
            world.play([act for n in range(4000) for d in range(2) for act in (("guard", d), ("device", d, n))])
            log, rows = world.memory.log(), world.drivers[0].rows()
            self.assertGreater(len(log), 8000)
            lendings(log), log_fault(log), row_fault(rows, log, 0), moment_fault(rows, log, 0)
            self.assertLess(time.monotonic() - start, 10)


if __name__ == "__main__":
    unittest.main()
