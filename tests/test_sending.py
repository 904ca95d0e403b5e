"""Points 20, 21 and 22: what the driver chooses, and how it sends."""

import unittest

from driver_bench import V, ZEROS, Bench, asks, fills, hands_over, hears, lends, looks, sends, takes_back
from ringbound.driver import Driver
from ringbound.memory import Memory, doorbell, frame_cell


class Playing(unittest.TestCase):
    def bench(self, *requests, d=0):
        return Bench(self, list(requests), d)


class Lending(Playing):
    def test_new_driver(self):
        for d in range(2):
            memory = Memory()
            driver = Driver(memory, d, [("read", 0)])
            self.assertEqual((driver.generation, driver.completions, driver.resets), (0, 0, 0))
            self.assertIs(driver.broken, False)
            self.assertEqual((driver.rows(), driver.under_way(), driver.free_frames()), ([], [], [2, 3, 4, 5]))
            self.assertIs(driver.is_done(), False)
            self.assertEqual(memory.count, 0)

    def test_rings_are_lent_first_of_all(self):
        for d in range(2):
            for requests in ([("read", 0)], [("write", 1, V), ("read", 1)], []):
                bench = self.bench(*requests, d=d)
                bench.expect(*lends(d))
                self.assertEqual((bench.driver.rows(), bench.driver.under_way()), ([], []))

    def test_no_requests(self):
        for d in range(2):
            bench = self.bench(d=d)
            self.assertIs(bench.driver.is_done(), True)
            bench.expect(*lends(d))
            bench.rests()
            self.assertIs(bench.driver.is_done(), True)
            self.assertEqual((bench.driver.rows(), bench.driver.free_frames()), ([], [2, 3, 4, 5]))

    def test_done(self):
        for d in range(2):
            bench = self.bench(("write", 3, V), d=d)
            bench.rings()
            bench.expect(*sends(d, ("write", 3, V), 0, 2, 0))
            self.assertIs(bench.driver.is_done(), False)
            bench.finish(0, 0)
            self.assertIs(bench.driver.is_done(), True)
            bench.rests()

    def test_the_list_of_requests_stays_and_is_copied(self):
        requests = [("write", 0, V), ("read", 0)]
        bench = Bench(self, requests)
        bench.rings()
        bench.expect(*sends(0, ("write", 0, V), 0, 2, 0))
        self.assertEqual(requests, [("write", 0, V), ("read", 0)])
        requests.clear()
        bench.expect(*sends(0, ("read", 0), 1, 3, 1))


class Choosing(Playing):
    def test_in_their_order_and_at_most_three(self):
        for d in range(2):
            requests = [("read", 5), ("write", 1, V), ("read", 5), ("read", 0), ("read", 1)]
            bench = self.bench(*requests, d=d)
            bench.rings()
            for n in range(3):
                bench.expect(*sends(d, requests[n], n, n + 2, n))
            bench.expect(*asks(d), *asks(d), *asks(d), *asks(d), *looks(d, 0), *asks(d))
            self.assertEqual(bench.driver.under_way(), [(0, 0, 2), (1, 1, 3), (2, 2, 4)])
            bench.finish(1, 0)
            bench.expect(*sends(d, requests[3], 1, 3, 3), *asks(d))

    def test_a_write_waits_for_a_write_of_its_block(self):
        requests = [("write", 2, V), ("write", 2, (1, 1, 1, 1)), ("read", 7), ("write", 3, V)]
        for d in range(2):
            bench = self.bench(*requests, d=d)
            bench.rings()
            bench.expect(*sends(d, requests[0], 0, 2, 0), *asks(d), *asks(d))
            self.assertEqual([row[0] for row in bench.driver.rows()], [0])
            bench.finish(0, 0)
            bench.expect(*sends(d, requests[1], 0, 2, 1))
            bench.expect(*sends(d, requests[2], 1, 3, 2), *sends(d, requests[3], 2, 4, 3), *asks(d))

    def test_a_write_waits_though_others_end(self):
        requests = [("write", 2, V), ("read", 2), ("write", 2, ZEROS), ("read", 0)]
        bench = self.bench(*requests)
        bench.rings()
        bench.expect(*sends(0, requests[0], 0, 2, 0), *sends(0, requests[1], 1, 3, 1), *asks(0))
        bench.finish(1, 0, V)
        bench.expect(*asks(0))
        bench.finish(0, 1)
        bench.expect(*sends(0, requests[2], 0, 2, 2), *sends(0, requests[3], 1, 3, 3))

    def test_nothing_else_waits(self):
        for requests in (
            [("write", 2, V), ("read", 2), ("read", 2)],
            [("read", 2), ("write", 2, V), ("read", 2)],
            [("read", 4), ("read", 4), ("write", 4, V)],
            [("write", 0, V), ("write", 1, V), ("write", 2, V)],
        ):
            bench = self.bench(*requests)
            bench.rings()
            for n in range(3):
                bench.expect(*sends(0, requests[n], n, n + 2, n))
            bench.expect(*asks(0))

    def test_sending_is_before_polling(self):
        bench = self.bench(("write", 0, V), ("write", 1, V))
        bench.rings()
        bench.expect(*sends(0, ("write", 0, V), 0, 2, 0))
        bench.complete(0, 0)
        bench.expect(*sends(0, ("write", 1, V), 1, 3, 1), *hears(0, 0), *takes_back(0, 2))

    def test_one_task_at_a_time(self):
        bench = self.bench(("write", 0, V), ("write", 0, ZEROS), ("write", 1, V))
        bench.rings()
        bench.expect(*sends(0, ("write", 0, V), 0, 2, 0))
        bench.complete(0, 0)
        bench.expect(*hears(0, 0), *takes_back(0, 2))
        # Only when the first one is finished the second one need not wait.
        bench.guard()
        bench.step()
        bench.expect(*sends(0, ("write", 0, ZEROS), 0, 2, 1), *sends(0, ("write", 1, V), 1, 3, 2))


class Sending(Playing):
    def test_each_request(self):
        for d in range(2):
            for block in range(8):
                for request in (("read", block), ("write", block, (block, -1, 10**30, 0))):
                    bench = self.bench(request, d=d)
                    bench.rings()
                    bench.expect(*sends(d, request, 0, 2, 0))
                    contents = [0, 0, 0, 0] if request[0] == "read" else list(request[2])
                    cells = [bench.memory.peek(frame_cell(d, 2, index)) for index in range(4)]
                    self.assertEqual((cells, bench.memory.peek(doorbell(d))), (contents, 1))

    def test_parts_of_a_sending(self):
        read = sends(1, ("read", 5), 2, 4, 6)
        self.assertEqual(read[:4], [("write", 40 + index, 0) for index in range(4)])
        self.assertEqual(read[4:], [("write", 66, (4, "w")), ("write", 26, (2, "read", 5, 0, 6)), ("write", 52, 7)])
        self.assertEqual(sends(1, ("write", 5, V), 2, 4, 6)[4], ("write", 66, (4, "r")))

    def test_under_way_from_the_doorbell_on(self):
        for d in range(2):
            for request in (("read", 6), ("write", 6, V)):
                bench = self.bench(request, d=d)
                bench.rings()
                for at, told in enumerate(sends(d, request, 0, 2, 0)):
                    self.assertEqual(bench.driver.under_way(), [])
                    bench.expect(told)
                    row = bench.driver.rows()
                    sendings = () if at < 6 else ((0, 0, 0, 2),)
                    self.assertEqual(row, [(0, request, None, 3, None, sendings)])
                self.assertEqual((bench.driver.under_way(), bench.driver.free_frames()), ([(0, 0, 2)], [3, 4, 5]))

    def test_a_request_that_is_sent_has_its_frame(self):
        bench = self.bench(("read", 6))
        bench.rings()
        self.assertEqual(bench.driver.free_frames(), [2, 3, 4, 5])
        bench.step()
        self.assertEqual(bench.driver.free_frames(), [3, 4, 5])

    def test_least_tag_and_frame(self):
        for gone in range(3):
            requests = [("read", 0), ("read", 1), ("read", 2), ("write", 3, V)]
            bench = self.bench(*requests)
            bench.rings()
            for n in range(3):
                bench.expect(*sends(0, requests[n], n, n + 2, n))
            bench.finish(gone, 0, (1, 2, 3, 4))
            left = [(tag, tag, tag + 2) for tag in range(3) if tag != gone]
            frames = [frame for frame in (2, 3, 4, 5) if frame in (gone + 2, 5)]
            self.assertEqual((bench.driver.under_way(), bench.driver.free_frames()), (left, frames))
            bench.expect(*sends(0, requests[3], gone, gone + 2, 3))
            left = sorted([*left, (gone, 3, gone + 2)])
            self.assertEqual((bench.driver.under_way(), bench.driver.free_frames()), (left, [5]))

    def test_the_least_of_two(self):
        requests = [("read", 0), ("read", 1), ("read", 2), ("write", 3, V), ("write", 3, ZEROS)]
        bench = self.bench(*requests[:3], requests[3], requests[4])
        bench.rings()
        for n in range(3):
            bench.expect(*sends(0, requests[n], n, n + 2, n))
        bench.finish(2, 0, V)
        bench.expect(*sends(0, requests[3], 2, 4, 3))
        # The last one waits until the tag 2 has ended, and takes the tag 0 then.
        bench.finish(0, 1, V)
        bench.finish(2, 2)
        self.assertEqual(bench.driver.free_frames(), [2, 4, 5])
        bench.expect(*sends(0, requests[4], 0, 2, 4))
        self.assertEqual(bench.driver.under_way(), [(0, 4, 2), (1, 1, 3)])

    def test_more_than_two_rounds_of_the_ring(self):
        for d in range(2):
            requests = [("write", 0, (n, 2, 3, 4)) for n in range(18)]
            bench = self.bench(*requests, d=d)
            bench.rings()
            phases = []
            for n in range(18):
                bench.expect(*sends(d, requests[n], 0, 2, n))
                entry = bench.memory.peek(frame_cell(d, 0, n % 4))
                phases.append(entry[3])
                self.assertEqual((entry[4], bench.memory.peek(doorbell(d))), (n, n + 1))
                bench.finish(0, n)
                self.assertEqual(bench.fields(), (0, n + 1, 0, False))
            self.assertEqual(phases, [1] * 4 + [0] * 4 + [1] * 4 + [0] * 4 + [1] * 2)
            bench.rests()
            self.assertEqual([row[5] for row in bench.driver.rows()], [((0, n, 0, 2),) for n in range(18)])

    def test_first_is_the_first_access(self):
        bench = self.bench(("write", 0, V), ("read", 1))
        bench.rings()
        # The accesses of others are counted, too.
        for _ in range(5):
            bench.device("read", doorbell(0))
        bench.step()
        self.assertEqual([row[3] for row in bench.driver.rows()], [8])
        bench.expect(*fills(0, 2, V)[1:], *hands_over(0, ("write", 0, V), 0, 2, 0))
        bench.device("read", doorbell(0))
        bench.step()
        self.assertEqual([row[3] for row in bench.driver.rows()], [8, 16])


class Lists(Playing):
    def test_lists_are_of_their_own(self):
        bench = self.bench(("read", 0), ("write", 1, V))
        given = []
        for _ in range(40):
            bench.step()
            lists = (bench.driver.rows(), bench.driver.under_way(), bench.driver.free_frames())
            given.append((lists, tuple(map(tuple, lists))))
        for lists, told in given:
            self.assertEqual(tuple(map(tuple, lists)), told)
            for part in lists:
                part.clear()
        self.assertEqual(bench.driver.under_way(), [(0, 0, 2), (1, 1, 3)])
        self.assertEqual((len(bench.driver.rows()), bench.driver.free_frames()), (2, [4, 5]))

    def test_two_drivers_at_one_memory(self):
        memory = Memory()
        drivers = [Driver(memory, d, [("write", 0, V)]) for d in range(2)]
        for _ in range(9):
            for driver in drivers:
                driver.step()
        for d in range(2):
            made = [entry[2] for entry in memory.log() if entry[1] == ("driver", d)]
            self.assertEqual(made, lends(d) + sends(d, ("write", 0, V), 0, 2, 0))
            self.assertEqual(drivers[d].rows()[0][3], 5 + d)


if __name__ == "__main__":
    unittest.main()
