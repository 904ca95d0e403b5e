"""Points 21 and 25: when the driver resets, and how."""

import unittest

from driver_bench import (
    V, ZEROS, Bench, asks, asks_for_reset, hears, looks, renews, sends, takes_back, waits,
)
from ringbound.memory import frame_cell, interrupt, ready, reset

OTHER = (1, 1, 2, 3)
JOURNAL = ("journal",)


class Playing(unittest.TestCase):
    def sent(self, *requests, d=0, many=3):
        """A bench that has sent the first of these requests."""
        bench = Bench(self, list(requests), d)
        bench.rings()
        for n, request in enumerate(requests[:many]):
            bench.expect(*sends(d, request, n, n + 2, n))
        return bench

    def begin_reset(self, bench, *pages, late=0):
        """A wrong completion, and the accesses of the reset until the guard has dropped the pages."""
        bench.put(bench.driver.completions, (3, "done", 1))
        bench.device("write", interrupt(bench.d), 1)
        bench.expect(*hears(bench.d, bench.driver.completions))
        bench.expect(*takes_back(bench.d, 0, 1, *pages), *waits(bench.d) * late)
        bench.guard()
        bench.expect(*waits(bench.d))

    def answer_reset(self, bench, readings=1):
        """The device answers at this reading of the ready register."""
        generation = bench.driver.generation + 1
        bench.expect(*asks_for_reset(bench.d, generation)[:1])
        bench.expect(*[("read", ready(bench.d))] * (readings - 1))
        bench.device("write", ready(bench.d), generation)
        bench.expect(("read", ready(bench.d)))


class Reasons(Playing):
    def test_200_accesses_are_not_too_many_and_201_are(self):
        for d in range(2):
            for request in (("read", 0), ("write", 0, V)):
                bench = self.sent(request, d=d)
                bench.expect(*(asks(d) * 4 + looks(d, 0)) * 40)
                # Now 200 accesses stand behind the doorbell.
                bench.expect(*asks(d), *takes_back(d, 0, 1, 2))

    def test_a_task_ends_first(self):
        bench = self.sent(("write", 0, V))
        for _ in range(66):
            bench.device("write", interrupt(0), 1)
            bench.expect(*hears(0, 0))
        # 198 accesses; the next poll makes three.
        bench.device("write", interrupt(0), 1)
        bench.expect(*hears(0, 0), *takes_back(0, 0, 1, 2))

    def test_the_oldest_one_counts(self):
        bench = self.sent(("write", 0, V), ("read", 1), ("read", 2))
        bench.finish(1, 0, V)
        # 14 accesses of the other sendings, 3 of the poll, 2 + 1 + 4 of the finishing.
        bench.expect(*(asks(0) * 4 + looks(0, 1)) * 35, *asks(0), *asks(0), *takes_back(0, 0, 1, 2, 4))

    def test_one_that_is_finished_does_not_count(self):
        bench = self.sent(("write", 0, V), ("write", 0, OTHER), many=1)
        bench.expect(*(asks(0) * 4 + looks(0, 0)) * 39)
        bench.finish(0, 0)
        bench.expect(*sends(0, ("write", 0, OTHER), 0, 2, 1))
        bench.expect(*(asks(0) * 4 + looks(0, 1)) * 40, *asks(0), *takes_back(0, 0, 1, 2))

    def test_a_late_guard_makes_the_others_old(self):
        bench = self.sent(("write", 0, V), ("write", 1, V), ("write", 2, V), ("write", 3, V))
        bench.complete(1, 0)
        bench.expect(*hears(0, 0), *takes_back(0, 3), *waits(0) * 300)
        bench.guard()
        # The reset stands before the request that could be sent.
        bench.expect(*waits(0), *takes_back(0, 0, 1, 2, 4))

    def test_a_wrong_completion(self):
        for d in range(2):
            bench = self.sent(("write", 0, V), d=d)
            bench.put(0, (1, "done", 1))
            bench.expect(*asks(d) * 4, *looks(d, 0), *takes_back(d, 0, 1, 2))


class Accesses(Playing):
    def test_access_by_access(self):
        requests = [("write", 0, V), ("read", 1), ("write", 2, OTHER)]
        for d in range(2):
            for many in (1, 2, 3):
                for late in (0, 1, 7):
                    bench = self.sent(*requests[:many], d=d)
                    self.begin_reset(bench, *range(2, 2 + many), late=late)
                    self.answer_reset(bench)
                    bench.expect(JOURNAL, *renews(d))
                    self.assertEqual(bench.fields(), (1, 0, 1, False))
                    for n in range(many):
                        bench.expect(*sends(d, requests[n], n, n + 2, n))
                    bench.expect(*asks(d))

    def test_parts_of_a_reset(self):
        self.assertEqual(takes_back(1, 0, 1, 3), [
            ("write", 62, None), ("write", 63, None), ("write", 65, None),
            ("command", 0), ("command", 1), ("command", 3),
        ])
        self.assertEqual(asks_for_reset(1, 7), [("write", 53, 7), ("read", 54)])
        self.assertEqual(renews(1)[:8], [("write", cell, None) for cell in range(24, 32)])
        self.assertEqual(renews(1)[8:], [("write", 62, (0, "r")), ("write", 63, (1, "w")), ("write", 55, 0)])

    def test_pages_of_those_under_way_alone(self):
        bench = self.sent(("write", 0, V), ("write", 1, V), ("write", 2, V))
        bench.finish(1, 0)
        self.begin_reset(bench, 2, 4)
        bench.expect(*asks_for_reset(0, 1))

    def test_ready_at_each_reading(self):
        for readings in (1, 2, 3, 99, 100):
            bench = self.sent(("read", 0))
            self.begin_reset(bench, 2)
            self.answer_reset(bench, readings)
            bench.expect(JOURNAL)
            self.assertEqual(bench.fields(), (0, 0, 0, False))
            bench.expect(*renews(0))
            self.assertEqual(bench.fields(), (1, 0, 1, False))

    def test_other_values_of_ready(self):
        for value in (0, 2, -1, None, "1", (1,)):
            bench = self.sent(("read", 0))
            bench.device("write", ready(0), value)
            self.begin_reset(bench, 2)
            bench.expect(*asks_for_reset(0, 1), *[("read", ready(0))] * 4)
            bench.device("write", ready(0), 1)
            bench.expect(("read", ready(0)), JOURNAL)

    def test_the_last_ticket(self):
        bench = self.sent(("read", 0))
        bench.put(0, (3, "done", 1))
        bench.device("write", interrupt(0), 1)
        bench.expect(*hears(0, 0), *takes_back(0, 0, 1, 2))
        for _ in range(2):
            bench.memory.access(("guard", 0), ("drop",))
            bench.expect(*waits(0) * 2)
        bench.memory.access(("guard", 0), ("drop",))
        bench.expect(*waits(0), *asks_for_reset(0, 1))

    def test_frames_and_requests_on_the_way(self):
        bench = self.sent(("write", 0, V), ("read", 1))
        three = [(0, 0, 2), (1, 1, 3)]
        bench.put(0, (3, "done", 1))
        bench.device("write", interrupt(0), 1)
        bench.expect(*hears(0, 0), *takes_back(0, 0, 1, 2, 3), *waits(0))
        self.assertEqual((bench.driver.under_way(), bench.driver.free_frames()), (three, [4, 5]))
        bench.guard()
        for told in [*waits(0), *asks_for_reset(0, 1)]:
            bench.expect(told)
            self.assertEqual((bench.driver.under_way(), bench.driver.free_frames()), (three, [2, 3, 4, 5]))
        bench.device("write", ready(0), 1)
        bench.expect(("read", ready(0)))
        self.assertEqual(bench.driver.under_way(), three)
        for told in [JOURNAL, *renews(0)]:
            self.assertEqual((bench.driver.generation, bench.driver.resets), (0, 0))
            bench.expect(told)
            self.assertEqual((bench.driver.under_way(), bench.driver.free_frames()), ([], [2, 3, 4, 5]))
        self.assertEqual((bench.driver.generation, bench.driver.resets), (1, 1))


class Answers(Playing):
    def committed(self, bench, block, sequence, generation=0):
        bench.device("commit", block, V, generation, sequence)

    def reset_until_journal(self, bench, *pages):
        self.begin_reset(bench, *pages)
        self.answer_reset(bench)
        bench.expect(JOURNAL)
        number = bench.memory.count
        bench.expect(*renews(bench.d))
        return number

    def test_writes_that_stand_in_the_journal(self):
        requests = [("write", 0, V), ("write", 1, V), ("write", 2, V)]
        for d in range(2):
            for done in range(8):
                bench = self.sent(*requests, d=d)
                mine = [n for n in range(3) if done // 2**n % 2]
                for n in mine:
                    self.committed(bench, n, n)
                number = self.reset_until_journal(bench, 2, 3, 4)
                for n, row in enumerate(bench.driver.rows()):
                    told = (("ok", None), number) if n in mine else (None, None)
                    self.assertEqual((row[2], row[4]), told)
                again = [n for n in range(3) if n not in mine]
                for place, n in enumerate(again):
                    bench.expect(*sends(d, requests[n], place, place + 2, place))
                self.assertEqual(bench.driver.under_way(), [(k, n, k + 2) for k, n in enumerate(again)])
                self.assertIs(bench.driver.is_done(), not again)

    def test_other_rows_of_the_journal(self):
        bench = self.sent(("write", 0, V), ("write", 1, V))
        rows = ((0, 2), (1, 0), (1, 1), (0,), (0, 0, 0), 0, None, "00", ((0, 0),), (0, "1"), (0, 1))
        bench.device("tell", rows)
        self.reset_until_journal(bench, 2, 3)
        self.assertEqual(bench.answers(), {0: None, 1: ("ok", None)})

    def test_a_read_is_sent_again_whatever_the_journal_has(self):
        bench = self.sent(("read", 0), ("write", 1, V))
        bench.device("tell", ((0, 0), (0, 1)))
        self.reset_until_journal(bench, 2, 3)
        self.assertEqual(bench.answers(), {0: None, 1: ("ok", None)})
        bench.expect(*sends(0, ("read", 0), 0, 2, 0), *asks(0))

    def test_a_write_that_is_not_under_way(self):
        bench = self.sent(("write", 0, V), ("write", 0, OTHER), many=1)
        bench.device("tell", ((0, 0), (0, 1)))
        number = self.reset_until_journal(bench, 2)
        self.assertEqual([row[2:5:2] for row in bench.driver.rows()], [(("ok", None), number)])
        bench.expect(*sends(0, ("write", 0, OTHER), 0, 2, 0))

    def test_again_before_all_others_in_their_order(self):
        requests = [("read", 0), ("write", 1, V), ("read", 2), ("write", 1, OTHER), ("read", 4)]
        bench = self.sent(*requests)
        bench.finish(0, 0, V)
        # The fourth one waits for the second one: tags 1 and 2 are under way, and the reset is next.
        self.reset_until_journal(bench, 3, 4)
        bench.expect(*sends(0, requests[1], 0, 2, 0), *sends(0, requests[2], 1, 3, 1), *asks(0))
        bench.finish(0, 0)
        bench.expect(*sends(0, requests[3], 0, 2, 2), *sends(0, requests[4], 2, 4, 3))

    def test_in_the_order_of_requests_not_of_tags(self):
        requests = [("write", 0, V), ("write", 1, V), ("write", 2, V), ("write", 3, V), ("write", 4, V)]
        bench = self.sent(*requests)
        bench.finish(0, 0)
        bench.expect(*sends(0, requests[3], 0, 2, 3))
        self.reset_until_journal(bench, 2, 3, 4)
        for tag, n in enumerate((1, 2, 3)):
            bench.expect(*sends(0, requests[n], tag, tag + 2, tag))
        self.assertEqual(bench.driver.under_way(), [(0, 1, 2), (1, 2, 3), (2, 3, 4)])

    def test_several_sendings_and_a_second_reset(self):
        requests = [("write", 0, V), ("read", 1)]
        for d in range(2):
            bench = self.sent(*requests, d=d)
            first = bench.driver.rows()[0][3]
            for generation in (1, 2):
                self.reset_until_journal(bench, 2, 3)
                self.assertEqual(bench.fields(), (generation, 0, generation, False))
                self.assertEqual(bench.memory.peek(reset(d)), generation)
                for n, request in enumerate(requests):
                    bench.expect(*sends(d, request, n, n + 2, n))
            sendings = [((0, n, n, n + 2), (1, n, n, n + 2), (2, n, n, n + 2)) for n in range(2)]
            self.assertEqual([row[5] for row in bench.driver.rows()], sendings)
            self.assertEqual(bench.driver.rows()[0][3], first)
            # A row of an earlier generation is another sending.
            bench.device("tell", ((1, 0), (0, 0)))
            self.reset_until_journal(bench, 2, 3)
            self.assertEqual(bench.answers(), {0: None, 1: None})
            for n, request in enumerate(requests):
                bench.expect(*sends(d, request, n, n + 2, n))
            bench.device("tell", ((3, 0),))
            number = self.reset_until_journal(bench, 2, 3)
            self.assertEqual(bench.driver.rows()[0][2:5], (("ok", None), first, number))

    def test_sequence_completions_and_patience_begin_again(self):
        requests = [("write", 0, (n, 0, 0, 0)) for n in range(7)]
        bench = self.sent(*requests, many=1)
        for n in range(1, 3):
            bench.finish(0, n - 1)
            bench.expect(*sends(0, requests[n], 0, 2, n))
        bench.expect(*asks(0) * 3)
        # The slot is read at the fourth reading: patience would be 4 behind the next one.
        bench.put(2, (3, "done", 1))
        bench.expect(*asks(0), *looks(0, 2), *takes_back(0, 0, 1, 2))
        bench.guard()
        bench.expect(*waits(0))
        self.assertEqual(bench.fields(), (0, 2, 0, False))
        self.answer_reset(bench)
        bench.expect(JOURNAL, *renews(0))
        self.assertEqual(bench.fields(), (1, 0, 1, False))
        self.assertEqual([bench.memory.peek(frame_cell(0, 1, index)) for index in range(4)], [None] * 4)
        bench.expect(*sends(0, requests[2], 0, 2, 0), *asks(0) * 4, *looks(0, 0))
        for n in range(2, 7):
            bench.finish(0, n - 2)
            if n < 6:
                bench.expect(*sends(0, requests[n + 1], 0, 2, n - 1))
        self.assertTrue(bench.driver.is_done())
        bench.rests()

    def test_patience_that_was_not_used_up(self):
        for many in range(4):
            bench = self.sent(("write", 0, V), ("write", 1, V))
            bench.expect(*(asks(0) * 4 + looks(0, 0)) * 37)
            # 7 + 185 accesses behind the first doorbell, then 9 more: with 201 patience is 3 - many.
            bench.complete(1, 0)
            bench.expect(*hears(0, 0), *takes_back(0, 3), *waits(0) * many)
            bench.guard()
            bench.expect(*waits(0), *asks(0) * (3 - many), *takes_back(0, 0, 1, 2))
            bench.guard()
            bench.expect(*waits(0))
            self.answer_reset(bench)
            bench.expect(JOURNAL, *renews(0), *sends(0, ("write", 0, V), 0, 2, 0))
            bench.expect(*asks(0) * 4, *looks(0, 0))

    def test_an_age_begins_again(self):
        bench = self.sent(("write", 0, V))
        bench.expect(*(asks(0) * 4 + looks(0, 0)) * 40, *asks(0), *takes_back(0, 0, 1, 2))
        bench.guard()
        bench.expect(*waits(0))
        self.answer_reset(bench)
        bench.expect(JOURNAL, *renews(0), *sends(0, ("write", 0, V), 0, 2, 0))
        bench.expect(*(asks(0) * 4 + looks(0, 0)) * 40, *asks(0), *takes_back(0, 0, 1, 2))


class Broken(Playing):
    def test_no_answer(self):
        requests = [("write", 0, V), ("read", 1), ("write", 2, V)]
        for d in range(2):
            for many in (1, 2, 3):
                bench = self.sent(*requests[:many], ("write", 0, OTHER), ("read", 0), d=d, many=many)
                self.begin_reset(bench, *range(2, 2 + many))
                bench.expect(*asks_for_reset(d, 1), *[("read", ready(d))] * 98)
                self.assertIs(bench.driver.broken, False)
                self.assertEqual(set(bench.answers().values()), {None})
                bench.expect(("read", ready(d)))
                self.assertEqual(bench.fields(), (0, 0, 0, True))
                self.assertIs(bench.driver.is_done(), True)
                self.assertEqual((bench.driver.under_way(), bench.driver.free_frames()), ([], [2, 3, 4, 5]))
                for row in bench.driver.rows():
                    self.assertEqual((row[2], row[4]), (("broken", None), bench.memory.count))
                bench.device("write", ready(d), 1)
                bench.rests()

    def test_rows_are_those_that_were_begun(self):
        bench = self.sent(("write", 0, V), ("write", 0, OTHER), ("read", 0), many=1)
        self.begin_reset(bench, 2)
        bench.expect(*asks_for_reset(0, 1), *[("read", ready(0))] * 99)
        self.assertEqual(bench.answers(), {0: ("broken", None)})
        self.assertIs(bench.driver.is_done(), True)

    def test_answers_from_before_stay(self):
        bench = self.sent(("write", 0, V), ("read", 1))
        bench.finish(1, 0, V)
        before = bench.driver.rows()[1]
        self.begin_reset(bench, 2)
        bench.expect(*asks_for_reset(0, 1), *[("read", ready(0))] * 99)
        self.assertEqual(bench.driver.rows()[1], before)
        self.assertEqual(bench.answers(), {0: ("broken", None), 1: ("ok", V)})
        self.assertEqual(bench.fields(), (0, 1, 0, True))

    def test_behind_a_reset_that_was_answered(self):
        bench = self.sent(("write", 0, V))
        self.begin_reset(bench, 2)
        self.answer_reset(bench)
        bench.expect(JOURNAL, *renews(0), *sends(0, ("write", 0, V), 0, 2, 0))
        self.begin_reset(bench, 2)
        bench.expect(*asks_for_reset(0, 2), *[("read", ready(0))] * 99)
        self.assertEqual(bench.fields(), (1, 0, 1, True))
        bench.rests()


if __name__ == "__main__":
    unittest.main()
