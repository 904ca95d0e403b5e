"""Points 23 and 24: polling and finishing."""

import unittest

from driver_bench import V, ZEROS, Bench, asks, hears, looks, reads, sends, takes_back, waits
from ringbound.memory import frame_cell, interrupt

READ = ("read", 6)
WRITE = ("write", 6, V)


class Playing(unittest.TestCase):
    def sent(self, *requests, d=0, without=0):
        """A bench that has sent these requests (at most three, none of which waits)."""
        bench = Bench(self, list(requests), d, without)
        bench.rings()
        for n, request in enumerate(requests):
            bench.expect(*sends(d, request, n, n + 2, n))
        return bench


class Polling(Playing):
    def test_interrupt(self):
        for d in range(2):
            bench = self.sent(WRITE, d=d)
            for _ in range(6):
                bench.device("write", interrupt(d), 1)
                bench.expect(*hears(d, 0))
                self.assertEqual(bench.memory.peek(interrupt(d)), 0)

    def test_other_values_are_no_interrupt(self):
        for value in (0, 2, -1, None, "1", (1,), ()):
            for d in range(2):
                bench = self.sent(WRITE, d=d)
                bench.device("write", interrupt(d), value)
                bench.expect(*asks(d) * 4, *looks(d, 0))
                self.assertEqual(bench.memory.peek(interrupt(d)), value)

    def test_each_fourth_reading(self):
        for d in range(2):
            bench = self.sent(WRITE, d=d)
            for _ in range(5):
                bench.expect(*asks(d) * 4, *looks(d, 0))

    def test_reading_the_slot_begins_patience_anew(self):
        for many in range(4):
            bench = self.sent(WRITE)
            bench.expect(*asks(0) * many)
            bench.device("write", interrupt(0), 1)
            bench.expect(*hears(0, 0))
            bench.expect(*asks(0) * 4, *looks(0, 0))

    def test_patience_stays_while_others_are_sent(self):
        requests = [("write", 0, V), ("write", 1, V), ("write", 1, ZEROS), ("read", 2)]
        bench = Bench(self, requests)
        bench.rings()
        bench.expect(*sends(0, requests[0], 0, 2, 0), *sends(0, requests[1], 1, 3, 1), *asks(0) * 3)
        bench.complete(1, 0)
        bench.expect(*hears(0, 0), *takes_back(0, 3))
        bench.guard()
        bench.expect(*waits(0), *sends(0, requests[2], 1, 3, 2), *sends(0, requests[3], 2, 4, 3))
        bench.expect(*asks(0) * 4, *looks(0, 1), *asks(0) * 3)

    def test_a_completion_without_an_interrupt(self):
        bench = self.sent(WRITE)
        bench.put(0, (0, "done", 1))
        bench.expect(*asks(0) * 4, *looks(0, 0), *takes_back(0, 2))


class Completions(Playing):
    OTHERS = (
        None, 0, 1, "done", (), (0,), (0, "done"), (0, "done", 1, 0), ((0, "done", 1),), (0, "done", (1,)),
        (None, "done", 1), ("0", "done", 1), (-1, "done", 1), (4, "done", 1), (0, None, 1), (0, "read", 0, 1, 0),
        (0, "Done", 1), (0, "ok", 1), (0, "", 1), (0, 0, 1), (0, "done", None), (0, "done", 2), (0, "done", -1),
    )

    def check_nothing_more(self, bench, number):
        bench.device("write", interrupt(bench.d), 1)
        before = (bench.fields(), bench.driver.rows(), bench.driver.under_way(), bench.driver.free_frames())
        bench.expect(*hears(bench.d, number))
        after = (bench.fields(), bench.driver.rows(), bench.driver.under_way(), bench.driver.free_frames())
        self.assertEqual(after, before)
        bench.expect(*asks(bench.d))

    def test_another_form_or_word_is_not_new(self):
        for d in range(2):
            for value in self.OTHERS:
                bench = self.sent(WRITE, READ, d=d)
                bench.put(0, value)
                self.check_nothing_more(bench, 0)

    def test_the_other_phase_is_not_new(self):
        bench = self.sent(WRITE)
        for tag in range(4):
            bench.put(0, (tag, "done", 0))
            self.check_nothing_more(bench, 0)

    def test_a_completion_that_was_taken_is_not_new(self):
        requests = [("write", 0, (n, 0, 0, 0)) for n in range(5)]
        bench = Bench(self, requests)
        bench.rings()
        for n in range(4):
            bench.expect(*sends(0, requests[n], 0, 2, n))
            bench.finish(0, n)
        bench.expect(*sends(0, requests[4], 0, 2, 4))
        self.assertEqual(bench.memory.peek(frame_cell(0, 1, 0)), (0, "done", 1))
        self.check_nothing_more(bench, 4)
        bench.finish(0, 4)
        self.assertTrue(bench.driver.is_done())

    def test_the_slot_is_the_one_that_is_expected(self):
        bench = self.sent(WRITE)
        for number in (1, 2, 3):
            bench.put(number, (0, "done", 1))
            self.check_nothing_more(bench, 0)

    def test_a_tag_that_is_under_way(self):
        for tag in range(3):
            bench = self.sent(("write", 0, V), ("write", 1, V), ("write", 2, V))
            bench.complete(tag, 0)
            bench.expect(*hears(0, 0), *takes_back(0, 2 + tag))

    def test_a_tag_that_is_not_under_way(self):
        for many in (1, 2, 3):
            for tag in range(many, 4):
                for d in range(2):
                    bench = self.sent(*[("write", n, V) for n in range(many)], d=d)
                    bench.complete(tag, 0)
                    bench.expect(*hears(d, 0))
                    self.assertEqual(bench.fields(), (0, 0, 0, False))
                    bench.expect(*takes_back(d, 0, 1, *range(2, 2 + many)))

    def test_a_tag_that_is_finished_is_not_under_way(self):
        bench = self.sent(("write", 0, V), ("write", 1, V))
        bench.finish(0, 0)
        bench.complete(0, 1)
        bench.expect(*hears(0, 1), *takes_back(0, 0, 1, 3))

    def test_a_wrong_completion_is_before_sending(self):
        requests = [("write", 0, V), ("write", 0, ZEROS)]
        bench = Bench(self, requests)
        bench.rings()
        bench.expect(*sends(0, requests[0], 0, 2, 0))
        bench.put(0, (2, "done", 1))
        bench.expect(*asks(0) * 4, *looks(0, 0), *takes_back(0, 0, 1, 2))


class Finishing(Playing):
    def test_write(self):
        for d in range(2):
            bench = self.sent(WRITE, d=d)
            bench.complete(0, 0)
            bench.expect(*hears(d, 0))
            for told in takes_back(d, 2):
                bench.expect(told)
                self.assertEqual((bench.driver.under_way(), bench.fields()), ([(0, 0, 2)], (0, 0, 0, False)))
            bench.guard()
            self.assertEqual(bench.answers(), {0: None})
            bench.expect(*waits(d))
            self.assertEqual(bench.driver.rows(), [(0, WRITE, ("ok", None), 3, bench.memory.count, ((0, 0, 0, 2),))])
            self.assertEqual((bench.driver.under_way(), bench.driver.free_frames()), ([], [2, 3, 4, 5]))
            self.assertEqual((bench.fields(), bench.driver.is_done()), ((0, 1, 0, False), True))
            bench.rests()

    def test_read(self):
        for d in range(2):
            bench = self.sent(READ, d=d)
            bench.complete(0, 0, (9, "x", None, (1,)))
            bench.expect(*hears(d, 0), *takes_back(d, 2))
            bench.guard()
            bench.expect(*waits(d))
            for told in reads(d, 2):
                self.assertEqual((bench.driver.under_way(), bench.fields()), ([(0, 0, 2)], (0, 0, 0, False)))
                self.assertEqual((bench.answers(), bench.driver.free_frames()), ({0: None}, [3, 4, 5]))
                bench.expect(told)
            told = (0, READ, ("ok", (9, "x", None, (1,))), 3, bench.memory.count, ((0, 0, 0, 2),))
            self.assertEqual(bench.driver.rows(), [told])
            self.assertEqual((bench.driver.under_way(), bench.driver.free_frames()), ([], [2, 3, 4, 5]))
            self.assertEqual((bench.fields(), bench.driver.is_done()), ((0, 1, 0, False), True))
            bench.rests()

    def test_a_read_without_values_has_zeros(self):
        bench = self.sent(READ)
        bench.finish(0, 0, ZEROS)
        self.assertEqual(bench.answers(), {0: ("ok", ZEROS)})

    def test_a_write_behind_a_read(self):
        bench = self.sent(READ, WRITE)
        bench.finish(0, 0, V)
        bench.finish(1, 1)
        self.assertEqual(bench.answers(), {0: ("ok", V), 1: ("ok", None)})

    def test_a_late_guard(self):
        for d in range(2):
            for request in (READ, WRITE):
                for late in (0, 1, 2, 150):
                    bench = self.sent(request, d=d)
                    bench.complete(0, 0)
                    bench.expect(*hears(d, 0), *takes_back(d, 2), *waits(d) * late)
                    self.assertEqual(bench.answers(), {0: None})
                    bench.guard()
                    bench.expect(*waits(d))
                    if request == READ:
                        bench.expect(*reads(d, 2))
                    self.assertEqual(bench.driver.rows()[0][4], bench.memory.count)
                    bench.rests()

    def test_a_lower_ticket_is_not_enough(self):
        bench = self.sent(("write", 0, V), ("write", 1, V))
        bench.memory.access(("driver", 0), ("command", 5))
        bench.complete(1, 0)
        bench.expect(*hears(0, 0), *takes_back(0, 3), *waits(0))
        bench.memory.access(("guard", 0), ("drop",))
        bench.expect(*waits(0) * 2)
        self.assertEqual(bench.answers(), {0: None, 1: None})
        bench.memory.access(("guard", 0), ("drop",))
        bench.expect(*waits(0))
        self.assertEqual(bench.answers(), {0: None, 1: ("ok", None)})

    def test_a_higher_ticket_is_enough(self):
        bench = self.sent(WRITE)
        bench.complete(0, 0)
        bench.expect(*hears(0, 0), *takes_back(0, 2))
        bench.memory.access(("driver", 0), ("command", 5))
        bench.guard()
        bench.expect(*waits(0))
        self.assertEqual(bench.answers(), {0: ("ok", None)})

    def test_in_the_order_of_the_completions(self):
        bench = self.sent(("read", 0), ("write", 1, V), ("read", 2))
        bench.finish(2, 0, (1, 2, 3, 4))
        bench.finish(0, 1, (5, 6, 7, 8))
        self.assertEqual(bench.answers(), {0: ("ok", V), 1: None, 2: ("ok", (1, 2, 3, 4))})
        self.assertEqual((bench.driver.under_way(), bench.driver.free_frames()), ([(1, 1, 3)], [2, 4, 5]))
        bench.finish(1, 2)
        self.assertEqual((bench.fields(), bench.driver.is_done()), ((0, 3, 0, False), True))
        bench.rests()

    def test_what_the_device_writes_before_the_drop_is_read(self):
        bench = self.sent(READ)
        bench.complete(0, 0, (1, 2, 3, 4))
        bench.expect(*hears(0, 0), *takes_back(0, 2))
        self.assertTrue(bench.device("dma write", 2, 3, 44))
        bench.guard()
        self.assertFalse(bench.device("dma write", 2, 2, 33))
        bench.expect(*waits(0), *reads(0, 2))
        self.assertEqual(bench.answers(), {0: ("ok", (1, 2, 3, 44))})


if __name__ == "__main__":
    unittest.main()
