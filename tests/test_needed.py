"""Points 34, 35 and 36: what is needed is shown by acts that break a world without it."""

import unittest

from ringbound.errors import NotValid
from ringbound.judge import log_fault, moment_fault, row_fault
from ringbound.memory import acknowledge, doorbell, frame_cell, ready, table_word
from ringbound.needed import breaking, fault_of
from ringbound.world import World

V = (5, 6, 7, 8)


def rounds(many):
    return [act for n in range(many) for act in (("guard", 0), ("driver", 0), ("device", 0, n))]


def played(place, without):
    requests, acts = breaking(place)
    world = World(requests, without)
    world.play(acts)
    return world


def faults(world):
    """The faults of the log, of moments and of rows, for device 0."""
    log, rows = world.memory.log(), world.drivers[0].rows()
    return log_fault(log)[0], moment_fault(rows, log, 0), row_fault(rows, log, 0)[0]


class Places(unittest.TestCase):
    def check_kinds(self, place):
        answer = breaking(place)
        self.assertIs(type(answer), tuple)
        requests, acts = answer
        self.assertEqual((type(requests), type(acts), requests[1]), (list, list, []))
        return requests[0], acts

    def test_same_block(self):
        for place in (1, 3):
            requests, acts = self.check_kinds(place)
            self.assertEqual(requests, [("write", 0, (k, 2, 3, 4)) for k in range(6)])
            self.assertEqual(acts, rounds(220))

    def test_zeros(self):
        requests, acts = self.check_kinds(2)
        self.assertEqual(requests, [("write", 0, V), ("write", 1, V), ("write", 2, V), ("read", 3)])
        many = [act[0] for act in acts].index("lie") // 3
        world = World([requests, []], 2)
        for n in range(many):
            self.assertNotIn(3, [index for _, index, _ in world.drivers[0].under_way()])
            world.play(rounds(n + 1)[-3:])
        tags = [tag for tag, index, _ in world.drivers[0].under_way() if index == 3]
        number = world.drivers[0].completions
        lie = ("dma write", 1, number % 4, (tags[0], "done", 1 if number < 4 else 0))
        self.assertEqual(acts, [*rounds(many), ("lie", 0, lie), *[("guard", 0), ("driver", 0)] * 60])

    def test_journal(self):
        requests, acts = self.check_kinds(4)
        self.assertEqual(requests, [("write", 0, V)])
        # 2 accesses of the lending and 7 of the sending, one in each round.
        told = [
            *rounds(9), ("device", 0, 1), *[("device", 0, 2)] * 5, *[("driver", 0), ("guard", 0)] * 260, *rounds(80),
        ]
        self.assertEqual(acts, told)
        world = World([requests, []])
        world.play(rounds(9)[:-1])
        self.assertEqual(world.drivers[0].under_way(), [(0, 0, 2)])
        world.play(acts[26:33])
        self.assertEqual(world.memory.journal(0), ((0, 0),))

    def test_order(self):
        requests, acts = self.check_kinds(5)
        self.assertEqual((requests, acts), ([("read", 0)], rounds(60)))

    def test_other_places(self):
        for place in (0, 6, -1, 10**30, True, False, None, "1", (1,), 1.0):
            with self.assertRaises(NotValid):
                breaking(place)

    def test_lists_are_of_their_own(self):
        for place in range(1, 6):
            requests, acts = breaking(place)
            told = ([list(part) for part in requests], list(acts))
            requests[0].clear()
            acts.clear()
            self.assertEqual(breaking(place), told)


class Breaking(unittest.TestCase):
    def test_a_world_that_leaves_the_place_out(self):
        # Point 35 asks for faults of the log first: reading a frame while it is lent (5) is one of them.
        found = [fault_of(played(place, place)) for place in range(1, 6)]
        self.assertEqual(found, ["lent", "moment", "row", "row", "lent"])

    def test_the_promise_that_point_34_tells(self):
        self.assertEqual(faults(played(1, 1))[0], "hand")
        self.assertEqual(faults(played(2, 2))[:2], ("", 3))
        self.assertEqual(faults(played(3, 3)), ("", -1, "missing"))
        self.assertEqual(faults(played(4, 4)), ("", -1, "twice"))
        self.assertEqual(faults(played(5, 5))[1], 0)

    def test_a_world_that_leaves_nothing_out(self):
        for place in range(1, 6):
            world = played(place, 0)
            self.assertEqual(fault_of(world), "", place)
            for more in (1, 7, 60, 1000):
                world.play(rounds(more))
                self.assertEqual(fault_of(world), "", place)
            world.settle(3000)
            self.assertEqual(fault_of(world), "", place)
            self.assertTrue(world.drivers[0].is_done())

    def test_who_lies(self):
        told = [played(place, 0).is_liar(0) for place in range(1, 6)]
        self.assertEqual(told, [False, True, False, False, False])


class FaultOf(unittest.TestCase):
    def test_new_world(self):
        for without in range(6):
            self.assertEqual(fault_of(World([[("read", 0)], []], without)), "")

    def drive(self, world, *request):
        world.memory.access(("driver", 0), request)

    def test_lent(self):
        for right, use in (("w", ("dma write", 2, 0, 1)), ("r", ("dma read", 2, 0))):
            world = World([[], []])
            self.drive(world, "write", table_word(0, 2), (2, right))
            world.play([("lie", 0, use)])
            self.drive(world, "write", table_word(0, 2), None)
            self.drive(world, "command", 2)
            self.drive(world, "write", acknowledge(0), 1)
            self.drive(world, "read", acknowledge(0))
            self.assertEqual(fault_of(world), "")
            world.play([("lie", 0, use)])
            self.assertEqual(fault_of(world), "lent")
        world = World([[], []])
        self.drive(world, "write", table_word(0, 2), (2, "w"))
        self.drive(world, "write", frame_cell(0, 2, 0), 1)
        self.assertEqual(fault_of(world), "lent")

    def test_the_rows_of_a_liar_are_not_judged(self):
        world = World([[("write", 0, V)], []])
        world.play([("driver", 0)] * 9)
        world.play([("lie", 0, ("dma write", 1, 0, (0, "done", 1)))])
        world.play([("driver", 0), ("guard", 0)] * 20)
        self.assertEqual(world.drivers[0].rows()[0][2], ("ok", None))
        self.assertEqual(faults(world), ("", -1, "missing"))
        self.assertEqual(fault_of(world), "")

    def test_row(self):
        world = World([[("write", 0, V)], []])
        world.play([("driver", 0)] * 9)
        world.memory.access(("device", 0), ("dma write", 1, 0, (0, "done", 1)))
        world.play([("driver", 0), ("guard", 0)] * 20)
        self.assertEqual(fault_of(world), "row")

    def test_moment_is_before_row(self):
        world = World([[("read", 0)], []], 2)
        world.play([("driver", 0)] * 5)
        world.memory.access(("device", 0), ("dma write", 1, 0, (0, "done", 1)))
        world.play([("driver", 0), ("guard", 0)] * 20)
        self.assertEqual(world.drivers[0].rows()[0][2], ("ok", (0, 0, 0, 0)))
        self.assertEqual(faults(world), ("", 0, "missing"))
        self.assertEqual(fault_of(world), "moment")

    def test_rows_of_device_1_are_not_judged(self):
        for without in (0, 2):
            world = World([[], [("read", 0)]], without)
            world.play([("driver", 1)] * 9)
            world.memory.access(("device", 1), ("dma write", 1, 0, (0, "done", 1)))
            world.play([("driver", 1), ("guard", 1)] * 20)
            self.assertEqual(world.drivers[1].rows()[0][2], ("ok", (0, 0, 0, 0)))
            self.assertEqual(fault_of(world), "")

    def test_nothing_is_changed(self):
        world = played(2, 2)
        before = (world.memory.log(), world.drivers[0].rows())
        fault_of(world)
        self.assertEqual((world.memory.log(), world.drivers[0].rows()), before)
        self.assertEqual(world.memory.peek(ready(0)), 0)
        self.assertEqual(world.memory.peek(doorbell(0)), 4)


if __name__ == "__main__":
    unittest.main()
