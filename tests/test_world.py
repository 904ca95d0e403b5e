"""Points 2, 27 and 28: acts, lies and settling."""

import unittest

from ringbound.device import Device
from ringbound.driver import Driver
from ringbound.errors import NotValid
from ringbound.memory import Memory, doorbell, frame_cell, interrupt, ready, reset, table_word
from ringbound.world import World

V = (5, 6, 7, 8)
WRITES = [("write", 0, V), ("read", 0)]


def state_of(world):
    """All that an act could change."""
    return (
        world.memory.log(),
        [(driver.rows(), driver.under_way(), driver.free_frames(), driver.generation) for driver in world.drivers],
        [(device.generation, device.taken, device.completed, device.jobs()) for device in world.devices],
        [(guard.entries(), guard.queue()) for guard in world.memory.guards],
        [world.memory.peek(cell) for cell in range(70)],
        [world.is_liar(d) for d in range(2)],
    )


class Making(unittest.TestCase):
    def test_fields(self):
        world = World([WRITES, []])
        self.assertIsInstance(world.memory, Memory)
        self.assertEqual(world.memory.count, 0)
        self.assertIs(type(world.drivers), list)
        self.assertIs(type(world.devices), list)
        self.assertEqual([type(driver) for driver in world.drivers], [Driver, Driver])
        self.assertEqual([type(device) for device in world.devices], [Device, Device])
        self.assertEqual([world.is_liar(d) for d in range(2)], [False, False])

    def test_each_driver_has_its_requests(self):
        world = World([[("read", 3)], [("write", 4, V), ("read", 5)]])
        self.assertTrue(world.settle(300))
        self.assertEqual([row[1] for row in world.drivers[0].rows()], [("read", 3)])
        self.assertEqual([row[1] for row in world.drivers[1].rows()], [("write", 4, V), ("read", 5)])

    def test_without(self):
        for without in range(6):
            World([WRITES, []], without)
            World([[], WRITES], without=without)
        for without in (-1, 6, 7, 10**30, True, False, None, "0", (0,), 0.0):
            with self.assertRaises(NotValid):
                World([[], []], without)

    def test_without_is_for_both_drivers(self):
        world = World([[("read", 0)], [("read", 0)]], 2)
        world.play([("driver", 0), ("driver", 1)] * 3)
        for d in range(2):
            made = [entry[2] for entry in world.memory.log() if entry[1] == ("driver", d)]
            self.assertEqual(made[2], ("write", table_word(d, 2), (2, "w")))

    def test_requests_that_are_none(self):
        wrong = (
            None, 0, "", "rr", {}, (), [], [[]], [[], [], []], ([], []), [(), ()], [[], ()], [[], None], [None, []],
            [[("read", 0)]], [[("read", 8)], []], [[], [("read", -1)]], [[("write", 0)], []], [[], [None]],
            [[("read", 0), ("seek", 0)], []], [[], [["read", 0]]], [[("write", 0, (1, 2, 3))], []], [[()], []],
            [[("write", 0, (1, 2, 3, True))], []], [[], [("read", True)]], [("read", 0), ("read", 1)], [[], "read"],
        )
        for requests in wrong:
            with self.subTest(requests=requests), self.assertRaises(NotValid):
                World(requests)

    def test_the_lists_stay_and_are_copied(self):
        requests = [list(WRITES), []]
        world = World(requests)
        world.settle(5)
        self.assertEqual(requests, [WRITES, []])
        requests[0].clear()
        requests[1].append(("read", 0))
        self.assertTrue(world.settle(500))
        self.assertEqual([len(driver.rows()) for driver in world.drivers], [2, 0])


class Acts(unittest.TestCase):
    def check_nothing(self, world, *acts):
        before = state_of(world)
        for act in acts:
            with self.subTest(act=act):
                self.assertEqual(world.play([act]), [False])
                self.assertEqual(state_of(world), before)

    def check_one(self, world, act, actor, request):
        """The act makes this access and no other one."""
        before = world.memory.log()
        self.assertEqual(world.play([act]), [True])
        log = world.memory.log()
        self.assertEqual(log[:-1], before)
        self.assertEqual(log[-1][1:3], (actor, request))

    def test_driver(self):
        for d in range(2):
            world = World([WRITES, WRITES])
            self.check_one(world, ("driver", d), ("driver", d), ("write", table_word(d, 0), (0, "r")))
            self.check_one(world, ("driver", d), ("driver", d), ("write", table_word(d, 1), (1, "w")))
            self.check_one(world, ("driver", d), ("driver", d), ("write", frame_cell(d, 2, 0), 5))

    def test_driver_that_has_nothing_to_do(self):
        for d in range(2):
            world = World([[], []])
            world.play([("driver", d)] * 2)
            self.check_nothing(world, ("driver", d), ("driver", d))

    def test_device(self):
        for d in range(2):
            world = World([WRITES, WRITES])
            self.check_one(world, ("device", d, 0), ("device", d), ("read", reset(d)))
            self.check_one(world, ("device", d, 1), ("device", d), ("dma read", 0, 0))
            self.check_one(world, ("device", d, -4), ("device", d), ("read", reset(d)))
            self.check_one(world, ("device", d, 10**30 + 3), ("device", d), ("dma read", 0, 0))

    def test_guard(self):
        for d in range(2):
            world = World([[], []])
            self.check_nothing(world, ("guard", 0), ("guard", 1))
            world.memory.access(("driver", d), ("command", 4))
            self.check_nothing(world, ("guard", 1 - d))
            self.check_one(world, ("guard", d), ("guard", d), ("drop",))
            self.check_nothing(world, ("guard", 0), ("guard", 1))

    def test_guard_takes_one_command(self):
        world = World([[], []])
        for page in (2, 3):
            world.memory.access(("driver", 0), ("command", page))
        self.check_one(world, ("guard", 0), ("guard", 0), ("drop",))
        self.assertEqual(world.memory.guards[0].queue(), [(3, 2)])

    def test_acts_that_are_none(self):
        world = World([WRITES, WRITES])
        world.play([("driver", 0)] * 5)
        self.check_nothing(
            world, ("driver", 2), ("driver", -1), ("guard", 2), ("device", 2, 0), ("lie", 2, ("fetch", 0, 0, 0)),
            ("driver",), ("device", 0), ("device", 0, 0, 0), ("seek", 0), (), ("driver", 0, 0), ("lie", 0),
            ["driver", 0], ("device", 0, None), ("device", 0, "1"), ("driver", None), ("driver", True), None, 0,
        )

    def test_the_list_of_acts_stays(self):
        world = World([WRITES, []])
        acts = [("driver", 0), ("guard", 0), ("device", 1, 2)]
        answers = world.play(acts)
        self.assertEqual((acts, answers), ([("driver", 0), ("guard", 0), ("device", 1, 2)], [True, False, True]))
        world.play(acts)
        self.assertEqual(answers, [True, False, True])
        self.assertEqual(world.play([]), [])


class Lies(unittest.TestCase):
    def lies(self, d):
        return (
            ("dma read", 0, 3), ("dma read", 5, 0), ("dma write", 1, 0, (0, "done", 1)), ("dma write", 2, 3, None),
            ("commit", 7, (1, None, "x", (2,)), -1, 9), ("fetch", 0, 0, 0), ("tell", ((0, 0), (1, 2))), ("tell", ()),
            ("write", ready(d), 1), ("write", ready(d), "x"), ("write", interrupt(d), 0), ("write", interrupt(d), 1),
        )

    def no_lies(self, d):
        return (
            ("read", ready(d)), ("read", reset(d)), ("write", doorbell(d), 1), ("write", reset(d), 1), ("drop",),
            ("write", ready(1 - d), 1), ("write", interrupt(1 - d), 1), ("write", frame_cell(d, 2, 0), 1), ("journal",),
            ("write", table_word(d, 0), None), ("command", 0), ("dma read", 6, 0), ("dma read", 0, 4), ("dma read", 0),
            ("dma write", 0, 0), ("dma write", 0, 0, [1]), ("commit", 8, V, 0, 0), ("commit", 0, V[:3], 0, 0),
            ("fetch", 0, 0), ("fetch", 0, None, 0), ("tell", 1), ("tell",), ("write", ready(d)), (), None, "fetch", 7,
            ("seek", 0), ["fetch", 0, 0, 0],
        )

    def test_each_kind(self):
        for d in range(2):
            for request in self.lies(d):
                world = World([WRITES, WRITES])
                world.play([("driver", d)] * 12)
                before = world.memory.count
                self.assertEqual([world.is_liar(k) for k in range(2)], [False, False])
                self.assertEqual(world.play([("lie", d, request)]), [True])
                self.assertEqual(world.memory.log()[before:][0][1:3], (("device", d), request))
                self.assertEqual(world.memory.count, before + 1)
                self.assertEqual([world.is_liar(k) for k in range(2)], [d == 0, d == 1])

    def test_what_lies_do(self):
        world = World([WRITES, []])
        world.play([("driver", 0)] * 9)
        world.play([
            ("lie", 0, ("dma write", 1, 2, (3, "done", 0))), ("lie", 0, ("commit", 6, V, 3, 4)),
            ("lie", 0, ("write", ready(0), 5)), ("lie", 0, ("write", interrupt(0), 1)),
        ])
        memory = world.memory
        self.assertEqual(memory.peek(frame_cell(0, 1, 2)), (3, "done", 0))
        self.assertEqual((memory.block(0, 6), memory.journal(0)), (V, ((3, 4),)))
        self.assertEqual((memory.peek(ready(0)), memory.peek(interrupt(0))), (5, 1))
        self.assertEqual(world.play([("lie", 0, ("tell", ((7, 7),)))]), [True])
        self.assertEqual(memory.journal(0), ((7, 7),))

    def test_a_dma_that_is_refused_is_a_lie_too(self):
        world = World([[], []])
        self.assertEqual(world.play([("lie", 1, ("dma write", 5, 0, 1))]), [True])
        self.assertEqual(world.memory.log(), [(1, ("device", 1), ("dma write", 5, 0, 1), False)])
        self.assertIs(world.is_liar(1), True)

    def test_what_is_no_lie(self):
        for d in range(2):
            for request in self.no_lies(d):
                world = World([WRITES, WRITES])
                world.play([("driver", d)] * 12)
                before = state_of(world)
                self.assertEqual(world.play([("lie", d, request)]), [False], request)
                self.assertEqual(state_of(world), before)
                self.assertIs(world.is_liar(d), False)

    def test_a_liar_makes_no_honest_step(self):
        for d in range(2):
            world = World([WRITES, WRITES])
            world.play([("driver", d)] * 9 + [("device", d, 1)])
            self.assertEqual(len(world.devices[d].jobs()), 1)
            world.play([("lie", d, ("fetch", 0, 0, 0))])
            before = state_of(world)
            self.assertEqual(world.play([("device", d, choice) for choice in range(8)]), [False] * 8)
            self.assertEqual(state_of(world), before)
            self.assertEqual(world.play([("device", 1 - d, 0), ("driver", d)]), [True, True])
            self.assertEqual(world.play([("lie", d, ("fetch", 0, 0, 0))]), [True])
            self.assertIs(world.is_liar(d), True)


class Settling(unittest.TestCase):
    def acts_of_round(self, n):
        return [act for d in range(2) for act in (("guard", d), ("driver", d), ("device", d, n))]

    def test_round_by_round(self):
        requests = [[("write", 0, V), ("read", 0), ("read", 1)], [("read", 7), ("write", 7, V)]]
        settled, played = World(requests), World(requests)
        rounds = 0
        while not all(driver.is_done() for driver in played.drivers):
            other = World(requests)
            self.assertIs(other.settle(rounds), False)
            self.assertEqual(other.memory.log(), played.memory.log())
            played.play(self.acts_of_round(rounds))
            rounds += 1
        self.assertIs(settled.settle(10**6), True)
        self.assertEqual(settled.memory.log(), played.memory.log())
        other = World(requests)
        self.assertIs(other.settle(rounds), True)
        self.assertEqual(other.memory.log(), played.memory.log())
        self.assertEqual([row[2][0] for driver in settled.drivers for row in driver.rows()], ["ok"] * 5)

    def test_rounds_are_numbered_anew(self):
        requests = [[("write", 0, V)], []]
        settled, played = World(requests), World(requests)
        settled.settle(6)
        settled.settle(7)
        for many in (6, 7):
            for n in range(many):
                played.play(self.acts_of_round(n))
        self.assertEqual(settled.memory.log(), played.memory.log())

    def test_no_round_when_done(self):
        world = World([[], []])
        self.assertIs(world.settle(10), True)
        self.assertEqual(world.memory.count, 0)
        world = World([WRITES, []])
        world.settle(300)
        before = state_of(world)
        self.assertIs(world.settle(10), True)
        self.assertEqual(state_of(world), before)

    def test_no_rounds(self):
        world = World([WRITES, []])
        self.assertIs(world.settle(0), False)
        self.assertEqual(world.memory.count, 0)

    def test_both_must_be_done(self):
        for d in range(2):
            requests = [[], []]
            requests[d] = [("read", 0)]
            world = World(requests)
            self.assertIs(world.settle(5), False)
            self.assertIs(world.settle(100), True)

    def test_a_liar_makes_no_step(self):
        world = World([WRITES, WRITES])
        world.play([("lie", 0, ("tell", ()))])
        self.assertIs(world.settle(1000), True)
        made = [entry for entry in world.memory.log() if entry[1] == ("device", 0)]
        self.assertEqual(len(made), 1)
        self.assertIs(world.drivers[0].broken, True)
        self.assertIs(world.drivers[1].broken, False)
        self.assertEqual(world.drivers[1].rows()[1][2], ("ok", V))


if __name__ == "__main__":
    unittest.main()
