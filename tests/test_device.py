"""Points 17, 18 and 19: the honest device, step by step."""

import itertools
import unittest

from ringbound.device import Device
from ringbound.memory import Memory, doorbell, frame_cell, interrupt, ready, reset, table_word
from ringbound.rings import completion, descriptor, phase_of

# Choices of each way (modulo 4), the small ones first.
WAYS = (
    (0, 4, 8, -4, -8, 4 * 10**30),
    (1, 5, 9, -3, -7, 4 * 10**30 + 1),
    (2, 6, 10, -2, -6, 4 * 10**30 + 2),
    (3, 7, 11, -1, -5, 4 * 10**30 + 3),
)
EVERY_WAY = tuple(choice for way in WAYS for choice in way)
V = (5, 6, 7, 8)


class Bench:
    """A memory, one of its devices, and the hand of its driver; the ring pages are lent."""

    def __init__(self, case, d):
        self.case = case
        self.d = d
        self.memory = Memory()
        self.device = Device(self.memory, d)
        self.lend(0, (0, "r"))
        self.lend(1, (1, "w"))

    def drive(self, *request):
        return self.memory.access(("driver", self.d), request)[0]

    def lend(self, page, word):
        self.drive("write", table_word(self.d, page), word)

    def take_back(self, page):
        self.lend(page, None)
        self.drive("command", page)
        self.memory.access(("guard", self.d), ("drop",))

    def put(self, number, value):
        """Put the value where the entry with this number is expected."""
        self.drive("write", frame_cell(self.d, 0, number % 4), value)

    def submit(self, tag, kind, block, number, contents=V):
        """Hand over a request; its buffer is the frame tag + 2."""
        for index, value in enumerate(contents):
            self.drive("write", frame_cell(self.d, tag + 2, index), value)
        # The guard may still have an entry of an earlier request with this tag.
        self.take_back(tag + 2)
        self.lend(tag + 2, (tag + 2, "r" if kind == "write" else "w"))
        self.put(number, descriptor(tag, kind, block, number))

    def fill(self, block, values):
        self.memory.access(("device", self.d), ("commit", block, values, 0, 0))

    def step(self, choice):
        """Make a step; return the request and the result of the one access that it makes."""
        before = self.memory.log()
        answer = self.device.step(choice)
        made = self.memory.log()[len(before):]
        self.case.assertIs(answer, True)
        self.case.assertEqual([entry[1] for entry in made], [("device", self.d)])
        return made[0][2:]

    def steps(self, *choices):
        return [self.step(choice) for choice in choices]

    def fields(self):
        return (self.device.generation, self.device.taken, self.device.completed)

    def cells(self, frame):
        return [self.memory.peek(frame_cell(self.d, frame, index)) for index in range(4)]

    def expect(self, *told):
        """The next steps, of a choice for the elder job, make these accesses with these results."""
        self.case.assertEqual(self.steps(*[2] * len(told)), list(told))


class Playing(unittest.TestCase):
    def bench(self, d=0):
        return Bench(self, d)

    def bench_with_jobs(self, many, d=0, kind="write"):
        """Jobs with the tags 0 and 1, which have been taken and nothing more."""
        bench = self.bench(d)
        for number in range(many):
            bench.submit(number, kind, number, number)
            bench.step(1)
        self.assertEqual(len(bench.device.jobs()), many)
        return bench


def looks(d, result=0):
    return (("read", reset(d)), result)


def asks(index, result=(None,)):
    return (("dma read", 0, index), result)


def interrupts(d):
    return (("write", interrupt(d), 1), None)


def completes(tag, number, result=True):
    return (("dma write", 1, number % 4, completion(tag, number)), result)


def reads_buffer(tag, contents=V):
    return [(("dma read", tag + 2, index), (value,)) for index, value in enumerate(contents)]


def writes_buffer(tag, contents=V):
    return [(("dma write", tag + 2, index, value), True) for index, value in enumerate(contents)]


def write_job(tag, block, number, contents=V, generation=0):
    commit = (("commit", block, contents, generation, number), None)
    return [*reads_buffer(tag, contents), commit]


def read_job(tag, block, number, contents=V, generation=0):
    fetch = (("fetch", block, generation, number), contents)
    return [fetch, *writes_buffer(tag, contents)]


class Taking(Playing):
    def test_new_device(self):
        for d in range(2):
            memory = Memory()
            device = Device(memory, d)
            self.assertEqual((device.generation, device.taken, device.completed, device.jobs()), (0, 0, 0, []))
            self.assertEqual((memory.count, memory.log()), (0, []))

    def test_in_order_and_at_most_two(self):
        for d in range(2):
            bench = self.bench(d)
            told = [descriptor(number, "write", number + 4, number) for number in range(4)]
            for number in range(4):
                bench.submit(number, "write", number + 4, number)
            self.assertEqual(bench.steps(1, 1), [asks(0, (told[0],)), asks(1, (told[1],))])
            self.assertEqual((bench.device.jobs(), bench.fields()), (told[:2], (0, 2, 0)))
            for choice in EVERY_WAY * 3:
                bench.step(choice)
                jobs = bench.device.jobs()
                self.assertLessEqual(len(jobs), 2)
                self.assertEqual(jobs, sorted(jobs, key=lambda job: job[-1]))
            self.assertEqual(bench.fields(), (0, 4, 4))

    def test_a_later_entry_waits_for_the_one_before(self):
        bench = self.bench()
        bench.put(1, descriptor(1, "read", 1, 1))
        self.assertEqual(bench.steps(1, 1), [asks(0), asks(0)])
        self.assertEqual((bench.device.jobs(), bench.fields()), ([], (0, 0, 0)))
        bench.put(0, descriptor(0, "read", 0, 0))
        bench.steps(1, 1)
        self.assertEqual(bench.device.jobs(), [descriptor(0, "read", 0, 0), descriptor(1, "read", 1, 1)])

    def test_jobs_is_a_list_of_its_own(self):
        bench = self.bench()
        lists = [bench.device.jobs()]
        for number in range(2):
            bench.submit(number, "write", 0, number)
            bench.step(1)
            lists.append(bench.device.jobs())
        bench.steps(*[2] * 12)
        lists.append(bench.device.jobs())
        first, second = descriptor(0, "write", 0, 0), descriptor(1, "write", 0, 1)
        self.assertEqual(lists, [[], [first], [first, second], [second]])
        for given in lists:
            given.clear()
        self.assertEqual(bench.device.jobs(), [second])

    def test_the_elder_job_is_first_when_the_one_before_has_ended(self):
        bench = self.bench_with_jobs(2)
        bench.steps(*[6] * 7)
        bench.submit(2, "read", 7, 2)
        bench.step(1)
        self.assertEqual(bench.device.jobs(), [descriptor(0, "write", 0, 0), descriptor(2, "read", 7, 2)])

    def test_each_step_is_one_access_of_its_own_device(self):
        for d in range(2):
            for choices in itertools.product((0, 1, 2, 6), repeat=4):
                bench = self.bench_with_jobs(2, d)
                bench.submit(2, "read", 7, 2)
                bench.drive("write", reset(d), 0)
                bench.steps(*choices * 5)

    def test_two_devices_at_one_memory(self):
        memory = Memory()
        devices = [Device(memory, 0), Device(memory, 1)]
        memory.access(("driver", 1), ("write", table_word(1, 0), (0, "r")))
        memory.access(("driver", 1), ("write", frame_cell(1, 0, 0), descriptor(3, "read", 1, 0)))
        memory.access(("driver", 1), ("write", reset(0 + 1), 0))
        for device in devices:
            device.step(1)
        self.assertEqual([device.taken for device in devices], [0, 1])
        self.assertEqual([device.jobs() for device in devices], [[], [descriptor(3, "read", 1, 0)]])
        self.assertEqual([entry[1] for entry in memory.log()[-2:]], [("device", 0), ("device", 1)])


class Choices(Playing):
    def test_no_job(self):
        for d in range(2):
            bench = self.bench(d)
            for choice in WAYS[0]:
                self.assertEqual(bench.step(choice), looks(d))
            for choice in (*WAYS[1], *WAYS[2], *WAYS[3]):
                self.assertEqual(bench.step(choice), asks(0))

    def test_no_job_takes_by_three_ways(self):
        for choice in (*WAYS[1], *WAYS[2], *WAYS[3]):
            bench = self.bench()
            bench.submit(3, "read", 2, 0)
            bench.step(choice)
            self.assertEqual(bench.device.jobs(), [descriptor(3, "read", 2, 0)])

    def test_one_job(self):
        for choice in WAYS[0]:
            self.assertEqual(self.bench_with_jobs(1).step(choice), looks(0))
        for choice in WAYS[1]:
            self.assertEqual(self.bench_with_jobs(1).step(choice), asks(1))
        for choice in (*WAYS[2], *WAYS[3]):
            self.assertEqual(self.bench_with_jobs(1).step(choice), (("dma read", 2, 0), (5,)))

    def test_two_jobs(self):
        for choice in WAYS[0]:
            self.assertEqual(self.bench_with_jobs(2).step(choice), looks(0))
        for way in WAYS[1:]:
            for choice in way:
                page = 2 + (choice // 4) % 2
                self.assertEqual(self.bench_with_jobs(2).step(choice), (("dma read", page, 0), (5,)), choice)

    def test_which_of_two_jobs(self):
        told = {1: 2, 2: 2, 3: 2, 5: 3, 6: 3, 7: 3, 9: 2, 10: 2, 11: 2, 15: 3, -1: 3, -2: 3, -3: 3, -5: 2, -7: 2, -9: 3}
        for choice, page in told.items():
            self.assertEqual(self.bench_with_jobs(2).step(choice)[0], ("dma read", page, 0), choice)

    def test_looking_changes_no_job(self):
        bench = self.bench_with_jobs(2)
        bench.steps(2, 0, 6, 4, -4)
        self.assertEqual(bench.fields(), (0, 2, 0))
        self.assertEqual(bench.steps(2, 6), [(("dma read", 2, 1), (6,)), (("dma read", 3, 1), (6,))])


class Pending(Playing):
    def test_ready_is_written_first(self):
        for d in range(2):
            for choice in EVERY_WAY:
                bench = self.bench(d)
                bench.submit(0, "write", 0, 0)
                bench.drive("write", reset(d), 3)
                self.assertEqual(bench.step(0), looks(d, 3))
                self.assertEqual(bench.step(choice), (("write", ready(d), 3), None))
                self.assertEqual((bench.memory.peek(ready(d)), bench.fields()), (3, (3, 0, 0)))
                self.assertEqual(bench.step(0), looks(d, 3))

    def test_interrupt_is_written_first(self):
        for d in range(2):
            for choice in EVERY_WAY:
                bench = self.bench_with_jobs(2, d)
                bench.drive("write", reset(d), 9)
                bench.steps(*[2] * 6)
                self.assertEqual(bench.fields(), (0, 2, 1))
                self.assertEqual(bench.memory.peek(interrupt(d)), 0)
                self.assertEqual(bench.step(choice), interrupts(d))
                self.assertEqual((bench.memory.peek(interrupt(d)), bench.fields()), (1, (0, 2, 1)))
                self.assertEqual(bench.step(0), looks(d, 9))

    def test_an_interrupt_for_each_completion(self):
        bench = self.bench_with_jobs(2)
        made = bench.steps(*[2] * 14)
        self.assertEqual([at for at, entry in enumerate(made) if entry == interrupts(0)], [6, 13])


class Resets(Playing):
    def test_another_number(self):
        for d in range(2):
            for number in (1, 2, 7, -1, 10**30):
                for many in range(3):
                    bench = self.bench_with_jobs(many, d)
                    bench.drive("write", reset(d), number)
                    self.assertEqual(bench.step(0), looks(d, number))
                    self.assertEqual((bench.fields(), bench.device.jobs()), ((number, 0, 0), []))
                    self.assertEqual(bench.memory.peek(ready(d)), 0)
                    self.assertEqual(bench.step(2), (("write", ready(d), number), None))
                    self.assertEqual(bench.memory.peek(reset(d)), number)

    def test_the_numbers_begin_again(self):
        bench = self.bench_with_jobs(2)
        bench.steps(*[2] * 7)
        self.assertEqual(bench.fields(), (0, 2, 1))
        bench.drive("write", reset(0), 5)
        bench.steps(0, 0)
        self.assertEqual((bench.fields(), bench.device.jobs()), ((5, 0, 0), []))
        bench.submit(3, "write", 6, 0, (1, 2, 3, 4))
        bench.step(1)
        bench.expect(*write_job(3, 6, 0, (1, 2, 3, 4), 5), completes(3, 0), interrupts(0))
        bench.submit(2, "read", 6, 1)
        bench.step(1)
        bench.expect(*read_job(2, 6, 1, (1, 2, 3, 4), 5), completes(2, 1), interrupts(0))
        self.assertEqual(bench.memory.journal(0)[-1], (5, 0))
        self.assertEqual(bench.fields(), (5, 2, 2))

    def test_back_to_a_lower_number(self):
        bench = self.bench_with_jobs(1)
        for number in (4, 2, 0, 1):
            bench.drive("write", reset(0), number)
            self.assertEqual(bench.steps(0, 0), [looks(0, number), (("write", ready(0), number), None)])
            self.assertEqual(bench.fields(), (number, 0, 0))

    def test_the_generation_itself(self):
        for d in range(2):
            bench = self.bench_with_jobs(2, d)
            bench.steps(*[2] * 7)
            bench.submit(2, "write", 2, 2)
            bench.step(1)
            before = (bench.fields(), bench.device.jobs())
            for choice in WAYS[0]:
                self.assertEqual(bench.step(choice), looks(d))
                self.assertEqual((bench.fields(), bench.device.jobs()), before)
            self.assertEqual(bench.step(2), (("dma read", 3, 0), (5,)))

    def test_the_generation_itself_behind_a_reset(self):
        bench = self.bench()
        bench.drive("write", reset(0), 6)
        self.assertEqual(bench.steps(0, 0, 0, 0)[2:], [looks(0, 6)] * 2)

    def test_what_is_no_number(self):
        for value in (None, "1", "", (), (1,)):
            bench = self.bench_with_jobs(2)
            jobs = bench.device.jobs()
            bench.drive("write", reset(0), value)
            self.assertEqual(bench.step(0), looks(0, value))
            self.assertEqual((bench.fields(), bench.device.jobs()), ((0, 2, 0), jobs))
            self.assertEqual(bench.step(2), (("dma read", 2, 0), (5,)))

    def test_the_other_device_goes_on(self):
        for d in range(2):
            bench = self.bench_with_jobs(1, d)
            bench.memory.access(("driver", 1 - d), ("write", reset(1 - d), 1))
            self.assertEqual(bench.step(0), looks(d))
            self.assertEqual(bench.fields(), (0, 1, 0))


class NothingNew(Playing):
    WRONG = (
        None, 0, "read", (), (0, "read", 0, 1), (0, "read", 0, 1, 0, 0), (0, "done", 1), (4, "read", 0, 1, 0),
        (-1, "read", 0, 1, 0), (0, "seek", 0, 1, 0), (0, "read", 8, 1, 0), (0, "read", -1, 1, 0),
        (0, "read", 0, 0, 0), (0, "read", 0, 1, 1), (0, "read", 0, 1, 4), (0, "read", 0, 1, 8), (0, "read", 0, 0, 4),
        (0, "read", 0, 1, None), (None, "read", 0, 1, 0), ((0, "read", 0, 1, 0),), (0, None, 0, 1, 0),
    )

    def test_values_that_are_no_new_descriptor(self):
        for d in range(2):
            for value in self.WRONG:
                for choice in (1, 2, 3, -3):
                    bench = self.bench(d)
                    bench.put(0, value)
                    self.assertEqual(bench.step(choice), asks(0, (value,)))
                    self.assertEqual((bench.device.jobs(), bench.fields()), ([], (0, 0, 0)), value)

    def test_beside_one_job(self):
        bench = self.bench_with_jobs(1)
        for value in (None, descriptor(0, "write", 0, 0), descriptor(1, "read", 0, 5), (1, "read", 0, 0, 1)):
            bench.put(1, value)
            self.assertEqual(bench.step(1), asks(1, (value,)))
            self.assertEqual((bench.device.jobs(), bench.fields()), ([descriptor(0, "write", 0, 0)], (0, 1, 0)))
        bench.put(1, (1, "read", 0, 1, 1))
        bench.step(1)
        self.assertEqual(bench.fields(), (0, 2, 0))

    def test_old_entry_of_the_round_before(self):
        bench = self.bench()
        for number in range(4):
            bench.submit(number, "write", 0, number)
            bench.steps(1, *[2] * 7)
        old = descriptor(0, "write", 0, 0)
        self.assertEqual(bench.steps(1, 2), [asks(0, (old,))] * 2)
        self.assertEqual((bench.device.jobs(), bench.fields()), ([], (0, 4, 4)))
        bench.put(4, descriptor(1, "read", 3, 4))
        bench.step(3)
        self.assertEqual((bench.device.jobs(), bench.fields()), ([(1, "read", 3, 0, 4)], (0, 5, 4)))

    def test_a_dma_that_is_refused(self):
        for d in range(2):
            for word in (None, (0, "w")):
                bench = self.bench(d)
                bench.submit(0, "read", 0, 0)
                bench.take_back(0)
                bench.lend(0, word)
                for choice in (1, 2, 3):
                    self.assertEqual(bench.step(choice), asks(0, None))
                    self.assertEqual((bench.device.jobs(), bench.fields()), ([], (0, 0, 0)))
                bench.take_back(0)
                bench.lend(0, (0, "r"))
                bench.step(1)
                self.assertEqual(bench.device.jobs(), [descriptor(0, "read", 0, 0)])

    def test_the_doorbell_is_nothing_to_the_device(self):
        bench = self.bench()
        bench.submit(0, "read", 0, 0)
        bench.step(1)
        self.assertEqual((bench.memory.peek(doorbell(0)), bench.fields()), (0, (0, 1, 0)))


class Jobs(Playing):
    def test_write(self):
        for d in range(2):
            for tag in range(4):
                for block in range(8):
                    bench = self.bench(d)
                    bench.submit(tag, "write", block, 0)
                    bench.step(1)
                    bench.expect(*write_job(tag, block, 0))
                    self.assertEqual(bench.memory.block(d, block), V)
                    self.assertEqual((bench.memory.journal(d), bench.fields()), (((0, 0),), (0, 1, 0)))
                    bench.expect(completes(tag, 0))
                    self.assertEqual((bench.device.jobs(), bench.fields()), ([], (0, 1, 1)))
                    self.assertEqual(bench.cells(1), [(tag, "done", 1), None, None, None])
                    bench.expect(interrupts(d), asks(1))

    def test_read(self):
        for d in range(2):
            for tag in range(4):
                for block in range(8):
                    bench = self.bench(d)
                    bench.fill(block, (9, 8, 7, 6))
                    bench.submit(tag, "read", block, 0, (0, 0, 0, 0))
                    bench.step(1)
                    bench.expect(*read_job(tag, block, 0, (9, 8, 7, 6)))
                    self.assertEqual((bench.cells(tag + 2), bench.fields()), ([9, 8, 7, 6], (0, 1, 0)))
                    bench.expect(completes(tag, 0))
                    self.assertEqual((bench.device.jobs(), bench.fields()), ([], (0, 1, 1)))
                    self.assertEqual(bench.cells(1), [(tag, "done", 1), None, None, None])
                    bench.expect(interrupts(d), asks(1))
                    self.assertEqual(len(bench.memory.journal(d)), 1)

    def test_a_read_has_the_values_of_its_fetch(self):
        bench = self.bench_with_jobs(1, kind="read")
        bench.fill(0, (1, 2, 3, 4))
        bench.expect((("fetch", 0, 0, 0), (1, 2, 3, 4)))
        bench.fill(0, (9, 9, 9, 9))
        bench.expect(*writes_buffer(0, (1, 2, 3, 4)))

    def test_a_write_has_the_values_at_its_reads(self):
        bench = self.bench_with_jobs(1)
        bench.steps(2, 2)
        for index in range(4):
            bench.drive("write", frame_cell(0, 2, index), ("new", index))
        bench.steps(2, 2)
        values = (5, 6, ("new", 2), ("new", 3))
        bench.expect((("commit", 0, values, 0, 0), None))
        self.assertEqual(bench.memory.block(0, 0), values)

    def test_values_of_every_kind(self):
        values = (None, "word", (1, (None,)), -(10**30))
        bench = self.bench()
        bench.submit(0, "write", 4, 0, values)
        bench.step(1)
        bench.expect(*write_job(0, 4, 0, values), completes(0, 0), interrupts(0))
        bench.submit(1, "read", 4, 1)
        bench.step(1)
        bench.expect(*read_job(1, 4, 1, values), completes(1, 1), interrupts(0))
        self.assertEqual(bench.cells(3), list(values))

    def test_more_than_two_rounds_of_the_ring(self):
        for d in range(2):
            bench = self.bench(d)
            for number in range(18):
                tag, block, contents = number * 3 % 4, number % 8, (number, 1, 2, 3)
                if number % 3 == 2:
                    block = (number - 1) % 8
                    contents = bench.memory.block(d, block)
                    bench.submit(tag, "read", block, number, (0, 0, 0, 0))
                    told = read_job(tag, block, number, contents)
                else:
                    bench.submit(tag, "write", block, number, contents)
                    told = write_job(tag, block, number, contents)
                self.assertEqual(bench.step(1)[0], ("dma read", 0, number % 4))
                bench.expect(*told, completes(tag, number), interrupts(d))
                self.assertEqual(bench.cells(1)[number % 4], (tag, "done", phase_of(number)))
                self.assertEqual(bench.fields(), (0, number + 1, number + 1))
            phases = [entry[2][3][2] for entry in bench.memory.log() if entry[2][:2] == ("dma write", 1)]
            self.assertEqual(phases, [1] * 4 + [0] * 4 + [1] * 4 + [0] * 4 + [1] * 2)

    def test_two_jobs_with_mixed_accesses(self):
        told = {2: [*write_job(0, 0, 0), None, None], 6: [*read_job(1, 3, 1, (0, 0, 0, 0)), None, None]}
        for order in set(itertools.permutations((2,) * 5 + (6,) * 3)):
            bench = self.bench()
            bench.submit(0, "write", 0, 0)
            bench.submit(1, "read", 3, 1)
            bench.steps(1, 1)
            made = [(choice, bench.step(choice)) for choice in order]
            for choice in (2, 6):
                mine = [entry for other, entry in made if other == choice]
                self.assertEqual(mine, told[choice][:len(mine)])

    def test_the_younger_job_may_end_first(self):
        bench = self.bench_with_jobs(2)
        bench.steps(2, 6, 6, 2, 6, 6, 6)
        self.assertEqual(bench.step(6), completes(1, 0))
        self.assertEqual(bench.device.jobs(), [descriptor(0, "write", 0, 0)])
        self.assertEqual(bench.step(6), interrupts(0))
        made = bench.steps(6, 2, 6, 2, 6)
        self.assertEqual(made, [*write_job(0, 0, 0)[2:], completes(0, 1), interrupts(0)])
        self.assertEqual(bench.cells(1), [(1, "done", 1), (0, "done", 1), None, None])
        self.assertEqual((bench.device.jobs(), bench.fields()), ([], (0, 2, 2)))

    def test_a_fetch_beside_a_commit(self):
        for order, values in (((2, 2, 2, 2, 6), (0, 0, 0, 0)), ((2, 2, 2, 2, 2, 6), V)):
            bench = self.bench()
            bench.submit(0, "write", 3, 0)
            bench.submit(1, "read", 3, 1)
            bench.steps(1, 1)
            self.assertEqual(bench.steps(*order)[-1], (("fetch", 3, 0, 1), values))


class Refused(Playing):
    def check_the_end(self, bench, request, refused):
        """The refused access was the last one of the job: nothing is pending and the rest is as before."""
        self.assertEqual(bench.step(2), (request, refused))
        self.assertEqual((bench.device.jobs(), bench.fields()), ([], (0, 1, 0)))
        self.assertEqual(bench.steps(2, 0), [asks(1), looks(bench.d)])
        self.assertEqual(bench.cells(1), [None] * 4)
        self.assertEqual(bench.memory.peek(interrupt(bench.d)), 0)
        bench.take_back(1)
        bench.lend(1, (1, "w"))
        bench.submit(3, "write", 5, 1)
        bench.step(1)
        bench.expect(*write_job(3, 5, 1), completes(3, 0), interrupts(bench.d))

    def test_a_read_of_the_buffer(self):
        for d in range(2):
            for at in range(4):
                bench = self.bench_with_jobs(1, d)
                bench.expect(*reads_buffer(0)[:at])
                bench.take_back(2)
                self.check_the_end(bench, ("dma read", 2, at), None)
                self.assertEqual(bench.memory.block(d, 0), (0, 0, 0, 0))
                self.assertEqual(bench.memory.journal(d), ((0, 1),))

    def test_a_write_of_the_buffer(self):
        for d in range(2):
            for at in range(4):
                bench = self.bench_with_jobs(1, d, "read")
                bench.fill(0, (9, 8, 7, 6))
                bench.expect(*read_job(0, 0, 0, (9, 8, 7, 6))[:at + 1])
                bench.take_back(2)
                self.check_the_end(bench, ("dma write", 2, at, 9 - at), False)
                self.assertEqual(bench.cells(2), [9, 8, 7, 6][:at] + [5, 6, 7, 8][at:])

    def test_the_completion_of_a_write(self):
        for d in range(2):
            bench = self.bench_with_jobs(1, d)
            bench.expect(*write_job(0, 0, 0))
            bench.take_back(1)
            self.check_the_end(bench, *completes(0, 0, False))
            self.assertEqual((bench.memory.block(d, 0), bench.memory.journal(d)), (V, ((0, 0), (0, 1))))

    def test_the_completion_of_a_read(self):
        for d in range(2):
            bench = self.bench_with_jobs(1, d, "read")
            bench.expect(*read_job(0, 0, 0, (0, 0, 0, 0)))
            bench.take_back(1)
            self.check_the_end(bench, *completes(0, 0, False))
            self.assertEqual(bench.cells(2), [0, 0, 0, 0])

    def test_the_other_right(self):
        bench = self.bench_with_jobs(1)
        bench.lend(2, (2, "w"))
        self.check_the_end(bench, ("dma read", 2, 0), None)
        bench = self.bench_with_jobs(1, kind="read")
        bench.lend(2, (2, "r"))
        bench.step(2)
        self.check_the_end(bench, ("dma write", 2, 0, 0), False)

    def test_the_other_job_goes_on(self):
        bench = self.bench_with_jobs(2)
        bench.steps(2, 6, 6)
        bench.take_back(2)
        self.assertEqual(bench.step(2), (("dma read", 2, 1), None))
        self.assertEqual(bench.device.jobs(), [descriptor(1, "write", 1, 1)])
        bench.expect(*write_job(1, 1, 1)[2:], completes(1, 0), interrupts(0))
        bench = self.bench_with_jobs(2)
        bench.steps(2, 6, 2)
        bench.take_back(3)
        self.assertEqual(bench.step(6), (("dma read", 3, 1), None))
        self.assertEqual(bench.device.jobs(), [descriptor(0, "write", 0, 0)])
        bench.expect(*write_job(0, 0, 0)[2:], completes(0, 0), interrupts(0))

    def test_an_entry_of_the_guard_lets_the_job_go_on(self):
        bench = self.bench_with_jobs(1)
        bench.step(2)
        bench.lend(2, None)
        bench.expect(*write_job(0, 0, 0)[1:], completes(0, 0), interrupts(0))


if __name__ == "__main__":
    unittest.main()
