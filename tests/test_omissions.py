"""Point 26: a driver that leaves out one thing, and nothing else."""

import unittest

from driver_bench import (
    V, ZEROS, Bench, asks, asks_for_reset, fills, hands_over, hears, lends, looks, reads, renews, sends, takes_back,
    waits,
)
from ringbound.driver import Driver
from ringbound.memory import frame_cell, interrupt, ready
from ringbound.world import World

READ = ("read", 6)
WRITE = ("write", 6, V)
PLACES = range(6)


class Omissions(unittest.TestCase):
    def bench(self, *requests, d=0, without=0):
        bench = Bench(self, list(requests), d, without)
        bench.rings()
        return bench

    def test_sending(self):
        for d in range(2):
            for without in PLACES:
                bench = self.bench(WRITE, READ, d=d, without=without)
                bench.expect(*sends(d, WRITE, 0, 2, 0))
                if without != 2:
                    bench.expect(*fills(d, 3, ZEROS))
                bench.expect(*hands_over(d, READ, 1, 3, 1), *asks(d))

    def test_nothing_is_left_out_unless_it_is_asked_for(self):
        bench = Bench(self, [])
        bench.driver = Driver(bench.memory, 0, [READ])
        bench.expect(*lends(0), *sends(0, READ, 0, 2, 0))
        bench.finish(0, 0, V)
        worlds = [World([[READ, WRITE], []]), World([[READ, WRITE], []], 0)]
        self.assertEqual([world.settle(200) for world in worlds], [True, True])
        self.assertEqual(worlds[0].memory.log(), worlds[1].memory.log())

    def test_first_of_a_read_without_zeros(self):
        bench = self.bench(READ, without=2)
        bench.step()
        self.assertEqual(bench.driver.rows(), [(0, READ, None, 3, None, ())])
        self.assertEqual(bench.driver.under_way(), [])
        bench.expect(*hands_over(0, READ, 0, 2, 0)[1:])
        self.assertEqual(bench.driver.under_way(), [(0, 0, 2)])

    def test_finishing_a_write(self):
        for d in range(2):
            for without in PLACES:
                bench = self.bench(WRITE, d=d, without=without)
                bench.expect(*sends(d, WRITE, 0, 2, 0))
                bench.complete(0, 0)
                bench.expect(*hears(d, 0), *takes_back(d, 2))
                if without != 1:
                    bench.expect(*waits(d))
                    bench.guard()
                    bench.expect(*waits(d))
                self.assertEqual(bench.driver.rows()[0][2:5], (("ok", None), 3, bench.memory.count))
                self.assertEqual((bench.driver.under_way(), bench.driver.free_frames()), ([], [2, 3, 4, 5]))
                self.assertEqual(bench.driver.completions, 1)
                bench.rests()

    def test_finishing_a_read(self):
        for d in range(2):
            for without in PLACES:
                bench = self.bench(READ, d=d, without=without)
                bench.expect(*(hands_over(d, READ, 0, 2, 0) if without == 2 else sends(d, READ, 0, 2, 0)))
                bench.complete(0, 0, V)
                bench.expect(*hears(d, 0))
                if without == 5:
                    bench.expect(*reads(d, 2))
                    # What the device writes now is too late.
                    bench.device("dma write", 2, 0, 99)
                bench.expect(*takes_back(d, 2))
                if without != 1:
                    bench.expect(*waits(d))
                    bench.guard()
                    bench.expect(*waits(d))
                if without != 5:
                    bench.expect(*reads(d, 2))
                self.assertEqual(bench.driver.rows()[0][2:5], (("ok", V), 3, bench.memory.count))
                self.assertEqual((bench.driver.under_way(), bench.driver.free_frames()), ([], [2, 3, 4, 5]))
                self.assertEqual(bench.driver.completions, 1)
                bench.rests()

    def test_the_phase(self):
        for d in range(2):
            for without in PLACES:
                for phase in (0, 1):
                    bench = self.bench(WRITE, d=d, without=without)
                    bench.expect(*sends(d, WRITE, 0, 2, 0))
                    bench.put(0, (0, "done", phase))
                    bench.device("write", interrupt(d), 1)
                    bench.expect(*hears(d, 0))
                    bench.expect(*(takes_back(d, 2) if phase == 1 or without == 3 else asks(d)))

    def test_another_tag_of_the_other_phase(self):
        bench = self.bench(WRITE, without=3)
        bench.expect(*sends(0, WRITE, 0, 2, 0))
        bench.put(0, (1, "done", 0))
        bench.expect(*asks(0) * 4, *looks(0, 0), *takes_back(0, 0, 1, 2))

    def test_without_the_phase_the_form_still_counts(self):
        for value in (None, 0, (0, "done"), (0, "done", 2), (0, "ok", 0), (4, "done", 0), (0, "done", None)):
            bench = self.bench(WRITE, without=3)
            bench.expect(*sends(0, WRITE, 0, 2, 0))
            bench.put(0, value)
            bench.device("write", interrupt(0), 1)
            bench.expect(*hears(0, 0), *asks(0))

    def test_an_old_completion(self):
        for without in PLACES:
            requests = [("write", 0, (n, 0, 0, 0)) for n in range(5)]
            bench = self.bench(*requests, without=without)
            for n in range(4):
                bench.expect(*sends(0, requests[n], 0, 2, n))
                bench.complete(0, n)
                bench.expect(*hears(0, n), *takes_back(0, 2))
                bench.guard()
                if without != 1:
                    bench.expect(*waits(0))
            bench.expect(*sends(0, requests[4], 0, 2, 4), *asks(0) * 4, *looks(0, 4))
            self.assertEqual(bench.memory.peek(frame_cell(0, 1, 0)), (0, "done", 1))
            bench.expect(*(takes_back(0, 2) if without == 3 else asks(0)))

    def test_resetting(self):
        for d in range(2):
            for without in PLACES:
                bench = self.bench(WRITE, READ, d=d, without=without)
                bench.expect(*sends(d, WRITE, 0, 2, 0))
                bench.expect(*(hands_over(d, READ, 1, 3, 1) if without == 2 else sends(d, READ, 1, 3, 1)))
                bench.device("commit", 6, V, 0, 0)
                bench.put(0, (3, "done", 1))
                bench.device("write", interrupt(d), 1)
                bench.expect(*hears(d, 0), *takes_back(d, 0, 1, 2, 3))
                if without != 1:
                    bench.expect(*waits(d))
                    bench.guard()
                    bench.expect(*waits(d))
                self.assertEqual(bench.driver.free_frames(), [2, 3, 4, 5])
                bench.expect(*asks_for_reset(d, 1))
                bench.device("write", ready(d), 1)
                bench.expect(("read", ready(d)), ("journal",))
                number = bench.memory.count
                told = (None, None) if without == 4 else (("ok", None), number)
                self.assertEqual(bench.driver.rows()[0][2:5:2], told)
                bench.expect(*renews(d))
                if without == 4:
                    bench.expect(*sends(d, WRITE, 0, 2, 0))
                    self.assertEqual(bench.driver.rows()[0][5], ((0, 0, 0, 2), (1, 0, 0, 2)))
                self.assertEqual(bench.fields(), (1, 0, 1, False))


if __name__ == "__main__":
    unittest.main()
