"""Points 7 and 8: the cells, blocks and journals of a new memory."""

import unittest

from ringbound import memory
from ringbound.errors import NotValid
from ringbound.guard import Guard
from ringbound.memory import Memory, acknowledge, doorbell, frame_cell, interrupt, ready, reset, table_word

NO_NUMBERS = (None, "0", "", (0,), [0], 0.0, True, False)


def told_order():
    cells = [frame_cell(d, frame, index) for d in range(2) for frame in range(6) for index in range(4)]
    for d in range(2):
        cells += [doorbell(d), reset(d), ready(d), interrupt(d)]
    cells += [table_word(d, page) for d in range(2) for page in range(6)]
    return cells + [acknowledge(d) for d in range(2)]


class Cells(unittest.TestCase):
    def test_all_cells_in_the_told_order(self):
        self.assertEqual(told_order(), list(range(70)))

    def test_example(self):
        self.assertEqual(frame_cell(1, 2, 3), 35)
        self.assertEqual(doorbell(0), 48)
        self.assertEqual(ready(1), 54)
        self.assertEqual(table_word(1, 0), 62)
        self.assertEqual(acknowledge(1), 69)

    def test_first_values(self):
        empty = {frame_cell(d, frame, index) for d in range(2) for frame in (0, 1) for index in range(4)}
        empty |= {table_word(d, page) for d in range(2) for page in range(6)}
        values = [Memory().peek(cell) for cell in range(70)]
        for cell, value in enumerate(values):
            if cell in empty:
                self.assertIsNone(value, cell)
            else:
                self.assertIs(type(value), int, cell)
                self.assertEqual(value, 0, cell)

    def test_peek_refuses_other_cells(self):
        for cell in (-1, 70, 71, -70, 10**30, *NO_NUMBERS):
            with self.assertRaises(NotValid):
                Memory().peek(cell)


class Storage(unittest.TestCase):
    def test_first_storage(self):
        self.assertEqual(memory.BLOCKS, 8)
        new = Memory()
        for device in range(2):
            self.assertEqual([new.block(device, block) for block in range(8)], [(0, 0, 0, 0)] * 8)
            self.assertEqual(new.journal(device), ())

    def test_refused_numbers(self):
        new = Memory()
        for device in (-1, 2, 10**30, *NO_NUMBERS):
            with self.assertRaises(NotValid):
                new.block(device, 0)
            with self.assertRaises(NotValid):
                new.journal(device)
        for block in (-1, 8, -8, 10**30, *NO_NUMBERS):
            with self.assertRaises(NotValid):
                new.block(0, block)


class NewMemory(unittest.TestCase):
    def test_fields(self):
        new = Memory()
        self.assertEqual(new.count, 0)
        self.assertEqual(new.log(), [])
        self.assertIs(type(new.guards), list)
        self.assertEqual([type(one) for one in new.guards], [Guard, Guard])
        self.assertIsNot(new.guards[0], new.guards[1])
        self.assertEqual([(one.entries(), one.queue()) for one in new.guards], [([], []), ([], [])])

    def test_looking_is_no_access(self):
        new = Memory()
        new.peek(0)
        new.block(0, 0)
        new.journal(0)
        new.log()
        self.assertEqual((new.count, new.log()), (0, []))

    def test_two_memories_share_nothing(self):
        one, other = Memory(), Memory()
        one.access(("driver", 0), ("write", doorbell(0), 5))
        one.access(("device", 0), ("commit", 0, (1, 2, 3, 4), 0, 0))
        one.access(("driver", 0), ("command", 2))
        self.assertEqual(other.peek(doorbell(0)), 0)
        self.assertEqual((other.block(0, 0), other.journal(0)), ((0, 0, 0, 0), ()))
        self.assertEqual((other.count, other.log(), other.guards[0].queue()), (0, [], []))


if __name__ == "__main__":
    unittest.main()
