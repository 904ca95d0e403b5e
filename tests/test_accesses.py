"""Points 1, 6 and 9: what the accesses do, and what they leave as it was."""

import unittest

from ringbound.memory import Memory, acknowledge, doorbell, frame_cell, interrupt, ready, reset, table_word

VALUES = (None, 0, -7, 10**30, "", "word", (), (None, 1, "a", ((), ("b", -2))))


def own_registers(d):
    return [doorbell(d), reset(d), ready(d), interrupt(d)]


def own_frames(d):
    return [frame_cell(d, frame, index) for frame in range(6) for index in range(4)]


def state_of(memory, d):
    """All that belongs to one device."""
    words = [table_word(d, page) for page in range(6)]
    cells = own_frames(d) + own_registers(d) + words + [acknowledge(d)]
    return (
        [memory.peek(cell) for cell in cells],
        [memory.block(d, block) for block in range(8)],
        memory.journal(d),
        memory.guards[d].entries(),
        memory.guards[d].queue(),
    )


def lend(memory, d, page, word):
    memory.access(("driver", d), ("write", table_word(d, page), word))


class ReadsAndWrites(unittest.TestCase):
    def test_driver_in_frames_registers_and_acknowledge_word(self):
        for d in range(2):
            memory = Memory()
            for cell in own_frames(d) + own_registers(d) + [acknowledge(d)]:
                for value in VALUES:
                    result, number = memory.access(("driver", d), ("write", cell, value))
                    self.assertIsNone(result)
                    self.assertEqual(memory.peek(cell), value)
                    self.assertEqual(memory.access(("driver", d), ("read", cell)), (value, number + 1))

    def test_driver_in_table_words(self):
        for d in range(2):
            memory = Memory()
            for page in range(6):
                cell = table_word(d, page)
                for word in [(frame, right) for frame in range(6) for right in "rw"] + [None]:
                    self.assertIsNone(memory.access(("driver", d), ("write", cell, word))[0])
                    self.assertEqual(memory.access(("driver", d), ("read", cell))[0], word)

    def test_device_in_its_registers(self):
        for d in range(2):
            memory = Memory()
            for cell in own_registers(d):
                for value in VALUES:
                    self.assertIsNone(memory.access(("device", d), ("write", cell, value))[0])
                    self.assertEqual(memory.access(("device", d), ("read", cell))[0], value)
                    self.assertEqual(memory.access(("driver", d), ("read", cell))[0], value)

    def test_a_write_changes_its_cell_alone(self):
        for d in range(2):
            for cell in own_frames(d) + own_registers(d) + [acknowledge(d)]:
                memory = Memory()
                before = [memory.peek(other) for other in range(70)]
                memory.access(("driver", d), ("write", cell, "new"))
                before[cell] = "new"
                self.assertEqual([memory.peek(other) for other in range(70)], before)


class Dma(unittest.TestCase):
    def test_read_every_cell(self):
        for d in range(2):
            memory = Memory()
            for cell in own_frames(d):
                memory.access(("driver", d), ("write", cell, cell * 10))
            for page in range(6):
                lend(memory, d, page, (5 - page, "r"))
                for index in range(4):
                    result = memory.access(("device", d), ("dma read", page, index))[0]
                    self.assertEqual(result, (frame_cell(d, 5 - page, index) * 10,))

    def test_a_value_that_is_read_stands_in_a_tuple(self):
        memory = Memory()
        lend(memory, 0, 0, (0, "r"))
        self.assertEqual(memory.access(("device", 0), ("dma read", 0, 0))[0], (None,))
        memory.access(("driver", 0), ("write", frame_cell(0, 0, 0), (1, (2,))))
        self.assertEqual(memory.access(("device", 0), ("dma read", 0, 0))[0], ((1, (2,)),))

    def test_write_every_cell(self):
        for d in range(2):
            memory = Memory()
            for page in range(6):
                lend(memory, d, page, (page, "w"))
                for index in range(4):
                    for value in VALUES:
                        before = [memory.peek(cell) for cell in range(70)]
                        result = memory.access(("device", d), ("dma write", page, index, value))[0]
                        self.assertIs(result, True)
                        before[frame_cell(d, page, index)] = value
                        self.assertEqual([memory.peek(cell) for cell in range(70)], before)

    def test_refused_uses_change_no_cell(self):
        for d in range(2):
            for word, right in ((None, "r"), (None, "w"), ((3, "w"), "r"), ((3, "r"), "w")):
                memory = Memory()
                memory.access(("driver", d), ("write", frame_cell(d, 3, 1), 9))
                lend(memory, d, 4, word)
                before = [memory.peek(cell) for cell in range(70)]
                if right == "r":
                    self.assertIsNone(memory.access(("device", d), ("dma read", 4, 1))[0])
                else:
                    self.assertIs(memory.access(("device", d), ("dma write", 4, 1, 5))[0], False)
                self.assertEqual([memory.peek(cell) for cell in range(70)], before)
                self.assertEqual(memory.guards[d].entries(), [] if word is None else [(4, word)])
                self.assertEqual(memory.count, 3)

    def test_the_entry_leads_until_it_is_dropped(self):
        memory = Memory()
        device, driver, guard = ("device", 1), ("driver", 1), ("guard", 1)
        lend(memory, 1, 2, (4, "w"))
        self.assertIs(memory.access(device, ("dma write", 2, 0, "a"))[0], True)
        lend(memory, 1, 2, None)
        self.assertIs(memory.access(device, ("dma write", 2, 0, "b"))[0], True)
        self.assertEqual(memory.peek(frame_cell(1, 4, 0)), "b")
        lend(memory, 1, 2, (5, "r"))
        self.assertIsNone(memory.access(device, ("dma read", 2, 0))[0])
        memory.access(driver, ("command", 2))
        self.assertIs(memory.access(device, ("dma write", 2, 0, "c"))[0], True)
        memory.access(guard, ("drop",))
        self.assertEqual(memory.access(device, ("dma read", 2, 0))[0], (0,))
        self.assertEqual(memory.guards[1].entries(), [(2, (5, "r"))])
        self.assertIs(memory.access(device, ("dma write", 2, 0, "d"))[0], False)
        self.assertEqual(memory.peek(frame_cell(1, 4, 0)), "c")


class Dropping(unittest.TestCase):
    def test_commands_and_drops(self):
        for d in range(2):
            memory = Memory()
            driver, guard = ("driver", d), ("guard", d)
            self.assertEqual([memory.access(driver, ("command", page))[0] for page in (5, 0, 5)], [1, 2, 3])
            self.assertEqual(memory.guards[d].queue(), [(5, 1), (0, 2), (5, 3)])
            self.assertEqual(memory.peek(acknowledge(d)), 0)
            for ticket in (1, 2, 3):
                self.assertIs(memory.access(guard, ("drop",))[0], True)
                self.assertEqual(memory.peek(acknowledge(d)), ticket)
                self.assertEqual(memory.access(driver, ("read", acknowledge(d)))[0], ticket)
            self.assertEqual(memory.guards[d].queue(), [])

    def test_drop_without_a_command(self):
        memory = Memory()
        lend(memory, 0, 2, (4, "r"))
        memory.access(("device", 0), ("dma read", 2, 0))
        before = state_of(memory, 0)
        result, number = memory.access(("guard", 0), ("drop",))
        self.assertIs(result, False)
        self.assertEqual((number, memory.count), (3, 3))
        self.assertEqual(memory.log()[-1], (3, ("guard", 0), ("drop",), False))
        self.assertEqual(state_of(memory, 0), before)


class Storage(unittest.TestCase):
    def test_commit_and_fetch(self):
        for d in range(2):
            memory = Memory()
            rows = ()
            for block in range(8):
                values = (block, None, "a", (1, ("b",)))
                generation, sequence = block - 3, 10**20 - block
                commit = ("commit", block, values, generation, sequence)
                self.assertIsNone(memory.access(("device", d), commit)[0])
                rows += ((generation, sequence),)
                self.assertEqual(memory.block(d, block), values)
                self.assertEqual(memory.journal(d), rows)
                self.assertEqual(memory.access(("device", d), ("fetch", block, -1, -2))[0], values)
                self.assertEqual(memory.access(("driver", d), ("journal",))[0], rows)
            self.assertEqual([memory.block(d, block)[0] for block in range(8)], list(range(8)))

    def test_fetch_changes_nothing(self):
        memory = Memory()
        before = state_of(memory, 0)
        self.assertEqual(memory.access(("device", 0), ("fetch", 7, 0, 0))[0], (0, 0, 0, 0))
        self.assertEqual(state_of(memory, 0), before)

    def test_tell(self):
        for d in range(2):
            memory = Memory()
            memory.access(("device", d), ("commit", 1, (1, 2, 3, 4), 0, 0))
            for rows in ((), ((0, 1), (0, 1)), (None, "a", 5, ((),))):
                self.assertIsNone(memory.access(("device", d), ("tell", rows))[0])
                self.assertEqual(memory.journal(d), rows)
                self.assertEqual(memory.access(("driver", d), ("journal",))[0], rows)
            self.assertEqual(memory.block(d, 1), (1, 2, 3, 4))
            memory.access(("device", d), ("commit", 1, (1, 2, 3, 4), 2, 6))
            self.assertEqual(memory.journal(d), (None, "a", 5, ((),), (2, 6)))

    def test_a_journal_that_was_read_stays(self):
        memory = Memory()
        memory.access(("device", 0), ("commit", 1, (1, 2, 3, 4), 0, 0))
        read, seen = memory.access(("driver", 0), ("journal",))[0], memory.journal(0)
        memory.access(("device", 0), ("commit", 1, (5, 6, 7, 8), 0, 1))
        memory.access(("device", 0), ("tell", ()))
        self.assertEqual((read, seen), (((0, 0),), ((0, 0),)))
        self.assertEqual(memory.log()[1][3], ((0, 0),))


class TheLog(unittest.TestCase):
    def test_numbers_over_both_devices(self):
        memory = Memory()
        steps = [
            (("driver", 0), ("write", table_word(0, 2), (4, "w")), None),
            (("driver", 1), ("write", table_word(1, 2), (4, "r")), None),
            (("device", 1), ("dma write", 2, 0, 1), False),
            (("device", 0), ("dma write", 2, 0, 1), True),
            (("device", 0), ("dma read", 2, 0), None),
            (("device", 1), ("dma read", 2, 0), (0,)),
            (("driver", 1), ("command", 2), 1),
            (("guard", 0), ("drop",), False),
            (("guard", 1), ("drop",), True),
            (("driver", 1), ("read", acknowledge(1)), 1),
            (("device", 0), ("commit", 3, (1, 2, 3, 4), 0, 5), None),
            (("device", 0), ("fetch", 3, 0, 5), (1, 2, 3, 4)),
            (("driver", 0), ("journal",), ((0, 5),)),
            (("device", 1), ("tell", (7,)), None),
            (("driver", 0), ("read", frame_cell(0, 4, 0)), 1),
        ]
        told = []
        for number, (actor, request, result) in enumerate(steps, 1):
            self.assertEqual(memory.access(actor, request), (result, number))
            told.append((number, actor, request, result))
            self.assertEqual(memory.count, number)
            self.assertEqual(memory.log(), told)

    def test_a_returned_log_is_new_and_never_changed(self):
        memory = Memory()
        memory.access(("driver", 0), ("journal",))
        first = memory.log()
        memory.access(("driver", 1), ("journal",))
        self.assertEqual(first, [(1, ("driver", 0), ("journal",), ())])
        memory.log().clear()
        self.assertEqual(len(memory.log()), 2)


class TwoDevices(unittest.TestCase):
    def test_nothing_reaches_the_other_device(self):
        for d in range(2):
            memory, other = Memory(), 1 - d
            lend(memory, other, 2, (3, "r"))
            memory.access(("device", other), ("dma read", 2, 0))
            memory.access(("driver", other), ("command", 2))
            memory.access(("driver", other), ("command", 4))
            before = state_of(memory, other)
            for page in range(6):
                lend(memory, d, page, (page, "w"))
                memory.access(("device", d), ("dma write", page, 1, 5))
                memory.access(("driver", d), ("command", page))
            for _ in range(9):
                memory.access(("guard", d), ("drop",))
            memory.access(("device", d), ("commit", 0, (1, 2, 3, 4), 0, 0))
            memory.access(("device", d), ("tell", (1,)))
            for cell in own_registers(d):
                memory.access(("device", d), ("write", cell, 5))
            self.assertEqual(state_of(memory, other), before)
            self.assertEqual(memory.access(("driver", other), ("command", 0))[0], 3)
            self.assertEqual(memory.access(("driver", d), ("command", 0))[0], 7)


class Arguments(unittest.TestCase):
    def test_passed_values_are_kept_as_they_were(self):
        memory = Memory()
        values, rows = (1, (2,), "a", None), ((0, 0), "b")
        actor, request = ("device", 0), ("commit", 2, values, 1, 2)
        memory.access(actor, request)
        memory.access(actor, ("tell", rows))
        memory.access(actor, ("commit", 2, (9, 9, 9, 9), 1, 3))
        self.assertEqual(values, (1, (2,), "a", None))
        self.assertEqual(rows, ((0, 0), "b"))
        self.assertEqual((actor, request), (("device", 0), ("commit", 2, values, 1, 2)))


if __name__ == "__main__":
    unittest.main()
