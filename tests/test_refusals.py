"""Points 2 and 10: what is refused raises NotValid, is not counted and changes nothing."""

import unittest

from ringbound.errors import NotValid
from ringbound.memory import Memory, acknowledge, doorbell, frame_cell, interrupt, ready, reset, table_word

DRIVER, DEVICE, GUARD = "driver", "device", "guard"
# An access of each word, right in all its parts for the device 0, and who makes it.
RIGHT = [
    (("read", doorbell(0)), (DRIVER, DEVICE)),
    (("write", doorbell(0), 1), (DRIVER, DEVICE)),
    (("dma read", 2, 3), (DEVICE,)),
    (("dma write", 3, 3, 1), (DEVICE,)),
    (("command", 2), (DRIVER,)),
    (("drop",), (GUARD,)),
    (("fetch", 2, 0, 0), (DEVICE,)),
    (("commit", 2, (1, 2, 3, 4), 0, 0), (DEVICE,)),
    (("journal",), (DRIVER,)),
    (("tell", ((0, 0),)), (DEVICE,)),
]
NO_INTEGERS = (None, "0", "", (0,), (), [0], {}, 0.0, b"0", True, False)
NO_VALUES = (True, False, 0.5, b"a", [], [1], {}, {1: 2}, {1}, object(), int, 1j)


class Equal:
    """Equal to everything, and of none of the told kinds."""

    def __eq__(self, other):
        return True


def nested(part):
    """The part in places within tuples."""
    return [part, (part,), (1, "a", part), (None, ((), (part, 2)))]


def whole_state(memory):
    return (
        [memory.peek(cell) for cell in range(70)],
        [memory.block(d, block) for d in range(2) for block in range(8)],
        [memory.journal(d) for d in range(2)],
        [(guard.entries(), guard.queue()) for guard in memory.guards],
        memory.log(),
        memory.count,
    )


def used_memory():
    """A memory in which each access of a wrong actor or part would leave a trace."""
    memory = Memory()
    for d in range(2):
        memory.access(("driver", d), ("write", table_word(d, 2), (2, "r")))
        memory.access(("driver", d), ("write", table_word(d, 3), (3, "w")))
        memory.access(("device", d), ("dma write", 3, 0, 7))
        memory.access(("device", d), ("commit", 1, (1, 2, 3, 4), 0, 0))
        memory.access(("driver", d), ("command", 3))
    return memory


class Refusals(unittest.TestCase):
    def refuse(self, actor, *requests):
        memory = used_memory()
        before = whole_state(memory)
        for request in requests:
            with self.subTest(actor=actor, request=request):
                with self.assertRaises(NotValid):
                    memory.access(actor, request)
                self.assertEqual(whole_state(memory), before)
        self.assertEqual(memory.access(("driver", 0), ("journal",))[1], before[-1] + 1)

    def test_right_accesses_are_taken(self):
        for request, roles in RIGHT:
            for role in roles:
                memory = used_memory()
                self.assertEqual(memory.access((role, 0), request)[1], 11)

    def test_accesses_of_other_actors(self):
        for request, roles in RIGHT:
            for role in (DRIVER, DEVICE, GUARD):
                if role not in roles:
                    self.refuse((role, 0), request)

    def test_unknown_actors(self):
        actors = [None, 0, "driver", "", (), ("driver",), ("driver", 0, 0), ["driver", 0], (0, "driver"), True]
        actors += [("driver", d) for d in (-1, 2, 10**30, *NO_INTEGERS)]
        actors += [(role, 0) for role in ("Driver", "world", "", None, 0, (), ("driver",), ["driver"], {}, b"driver")]
        actors += [{"driver": 0}, {"driver", 0}]
        for actor in actors:
            self.refuse(actor, *[request for request, roles in RIGHT])

    def test_what_only_looks_equal(self):
        self.refuse((Equal(), 0), *[request for request, roles in RIGHT])
        self.refuse(("driver", Equal()), ("journal",))
        self.refuse(Equal(), ("journal",))
        self.refuse(("driver", 0), (Equal(),), ("read", Equal()), ("write", table_word(0, 2), (Equal(), "r")))
        self.refuse(("driver", 0), ("write", table_word(0, 2), (0, Equal())), ("write", doorbell(0), Equal()))

    def test_requests_with_too_few_or_too_many_parts(self):
        for request, roles in RIGHT:
            for role in roles:
                self.refuse((role, 0), request + (0,), request + (None,), request + request[1:] + (0, 0))
                self.refuse((role, 0), *[request[:many] for many in range(len(request))])

    def test_requests_that_are_no_tuples_of_a_known_word(self):
        wrong = [None, 0, True, "", "drop", "journal", (), [], {}, ["journal"], ["drop"], {"drop": 0}, b"drop"]
        wrong += [(word,) for word in (None, 0, "", "Drop", "look", (), ("drop",), ["drop"], {}, True, b"drop")]
        wrong += [(word, 0) for word in ("dma", "dma  read", "READ", None, ["read"], ("read",), 0)]
        for role in (DRIVER, DEVICE, GUARD):
            self.refuse((role, 0), *wrong)
            self.refuse((role, 0), *[list(request) for request, roles in RIGHT])

    def test_cells_out_of_the_drivers_reach(self):
        for d in range(2):
            other = 1 - d
            cells = [frame_cell(other, frame, index) for frame in range(6) for index in range(4)]
            cells += [doorbell(other), reset(other), ready(other), interrupt(other), acknowledge(other)]
            cells += [table_word(other, page) for page in range(6)]
            self.refuse(("driver", d), *[("read", cell) for cell in cells])
            self.refuse(("driver", d), *[("write", cell, None) for cell in cells])

    def test_cells_out_of_the_devices_reach(self):
        for d in range(2):
            own = (doorbell(d), reset(d), ready(d), interrupt(d))
            cells = [cell for cell in range(70) if cell not in own]
            self.refuse(("device", d), *[("read", cell) for cell in cells])
            self.refuse(("device", d), *[("write", cell, None) for cell in cells])

    def test_cells_that_do_not_exist(self):
        for role in (DRIVER, DEVICE):
            for d in range(2):
                for cell in (-1, -70, -22, 70, 71, 10**30, *NO_INTEGERS):
                    self.refuse((role, d), ("read", cell), ("write", cell, 1))

    def test_nothing_but_words_in_the_table(self):
        wrong = [0, 1, "r", (), (0,), (6, "r"), (-1, "w"), (0, "x"), (0, "rw"), ("r", 0), (0, "r", 0), (None, "r")]
        wrong += [(True, "r"), [0, "r"], ((0, "r"),), (0, ["r"])]
        for d in range(2):
            for page in range(6):
                self.refuse(("driver", d), *[("write", table_word(d, page), word) for word in wrong])

    def test_pages_and_indexes_that_do_not_exist(self):
        for page in (-1, 6, 10**30, *NO_INTEGERS):
            self.refuse(("device", 0), ("dma read", page, 0), ("dma write", page, 0, 1))
            self.refuse(("driver", 0), ("command", page))
        for index in (-1, 4, 10**30, *NO_INTEGERS):
            self.refuse(("device", 0), ("dma read", 2, index), ("dma write", 3, index, 1))

    def test_blocks_that_do_not_exist(self):
        for block in (-1, 8, 10**30, *NO_INTEGERS):
            self.refuse(("device", 0), ("fetch", block, 0, 0), ("commit", block, (1, 2, 3, 4), 0, 0))

    def test_generations_and_sequences_that_are_no_integers(self):
        for part in NO_INTEGERS:
            self.refuse(("device", 0), ("fetch", 0, part, 0), ("fetch", 0, 0, part))
            self.refuse(("device", 0), ("commit", 0, (1, 2, 3, 4), part, 0), ("commit", 0, (1, 2, 3, 4), 0, part))

    def test_values_of_other_kinds(self):
        for wrong in NO_VALUES:
            for value in nested(wrong):
                self.refuse(("driver", 0), ("write", frame_cell(0, 2, 0), value), ("write", doorbell(0), value))
                self.refuse(("driver", 0), ("write", acknowledge(0), value))
                self.refuse(("device", 0), ("write", interrupt(0), value), ("dma write", 3, 0, value))
                # Page 5 has no word: what is wrong is refused by its form, and not by the guard.
                self.refuse(("device", 0), ("dma write", 5, 0, value))

    def test_values_of_a_commit(self):
        for wrong in NO_VALUES:
            for value in nested(wrong):
                for at in range(4):
                    values = (1, 2, 3, 4)[:at] + (value,) + (1, 2, 3, 4)[at + 1:]
                    self.refuse(("device", 0), ("commit", 0, values, 0, 0))
        for values in ((), (1,), (1, 2, 3), (1, 2, 3, 4, 5), [1, 2, 3, 4], None, "abcd", 1234, {}, ((1, 2, 3, 4),)):
            self.refuse(("device", 0), ("commit", 0, values, 0, 0))

    def test_rows_that_are_told(self):
        for wrong in NO_VALUES:
            for row in nested(wrong):
                self.refuse(("device", 0), ("tell", (row,)), ("tell", ((0, 0), row)), ("tell", (row, (0, 0))))
        for rows in (None, 0, "rows", [], [(0, 0)], {}, True, b""):
            self.refuse(("device", 0), ("tell", rows))

    def test_deeply_nested_values(self):
        value, wrong = (), [1]
        for _ in range(50000):
            value, wrong = (value,), (wrong,)
        memory = Memory()
        self.assertEqual(memory.access(("driver", 0), ("write", doorbell(0), value)), (None, 1))
        with self.assertRaises(NotValid):
            memory.access(("driver", 0), ("write", doorbell(0), wrong))
        self.assertEqual(memory.count, 1)


if __name__ == "__main__":
    unittest.main()
