"""Points 29, 32 and 33: the faults of rows, and reads that are of one moment."""

import unittest

from ringbound.judge import log_fault, moment_fault, row_fault
from ringbound.memory import Memory, acknowledge, frame_cell, table_word

V = (5, 6, 7, 8)
ZEROS = (0, 0, 0, 0)
OK = ("ok", None)
PLACE = (0, 0, 0, 2)


def write_row(index, answer=OK, first=2, last=20, sendings=(PLACE,), block=0, values=V):
    return (index, ("write", block, values), answer, first, None if answer is None else last, sendings)


def read_row(index, answer=("ok", ZEROS), first=2, last=20, sendings=(PLACE,), block=0):
    return (index, ("read", block), answer, first, None if answer is None else last, sendings)


def commit(number, block=0, values=V, generation=0, sequence=0, d=0):
    return (number, ("device", d), ("commit", block, values, generation, sequence), None)


def fetch(number, block=0, values=ZEROS, generation=0, sequence=0, d=0):
    return (number, ("device", d), ("fetch", block, generation, sequence), values)


class Rows(unittest.TestCase):
    def check(self, told, rows, log, d=0):
        """The rows of device d have this fault, and nothing is changed."""
        before = (list(rows), list(log))
        self.assertEqual(row_fault(rows, log, d), told)
        self.assertEqual((rows, log), before)

    def test_none(self):
        self.check(("", -1), [], [])
        self.check(("", -1), [write_row(0)], [commit(10)])
        self.check(("", -1), [read_row(0)], [fetch(10)])
        self.check(("", -1), [read_row(0, ("ok", V))], [commit(5, sequence=9), fetch(10, values=V)])
        self.check(("", -1), [write_row(0, None), read_row(1, None)], [])
        self.check(("", -1), [write_row(0, ("broken", None)), read_row(1, ("broken", None))], [])
        self.check(("", -1), [write_row(0, ("broken", None)), write_row(1, None)], [commit(3)])

    def test_missing(self):
        for log in ([], [commit(2)], [commit(1)], [commit(20)], [commit(21)], [fetch(10)], [commit(10, sequence=1)],
                    [commit(10, generation=1)], [commit(10, d=1)]):
            self.check(("missing", 0), [write_row(0)], log)
        for log in ([], [fetch(2)], [fetch(20)], [fetch(25)], [commit(10)], [fetch(10, sequence=1)],
                    [fetch(10, generation=1)], [fetch(10, d=1)]):
            self.check(("missing", 0), [read_row(0)], log)

    def test_not_missing(self):
        for number in (3, 10, 19):
            self.check(("", -1), [write_row(0)], [commit(number)])
            self.check(("", -1), [read_row(0)], [fetch(number)])
        sendings = ((0, 3, 1, 3), (1, 0, 0, 2), (2, 5, 2, 4))
        for generation, sequence, _, _ in sendings:
            log = [commit(10, generation=generation, sequence=sequence)]
            self.check(("", -1), [write_row(0, sendings=sendings)], log)
        self.check(("missing", 0), [write_row(0, sendings=sendings)], [commit(10, generation=0, sequence=0)])

    def test_rows_that_cannot_miss(self):
        for answer in (None, ("broken", None)):
            self.check(("", -1), [write_row(0, answer), read_row(1, answer)], [])

    def test_the_first_row_is_named(self):
        rows = [write_row(0), write_row(1, sendings=((0, 1, 1, 3),)), write_row(2, sendings=((0, 2, 2, 4),))]
        self.check(("missing", 1), rows, [commit(10)])
        self.check(("missing", 2), rows, [commit(10), commit(11, sequence=1)])
        self.check(("missing", 4), [write_row(4)], [])

    def test_twice(self):
        for answer in (OK, None, ("broken", None)):
            for numbers in ((10, 11), (3, 90), (18, 19)):
                self.check(("twice", 0), [write_row(0, answer)], [commit(number) for number in numbers])
        sendings = ((0, 3, 1, 3), (1, 0, 0, 2))
        twice = [commit(10, sequence=3), commit(15, generation=1)]
        self.check(("twice", 0), [write_row(0, sendings=sendings)], twice)
        self.check(("twice", 3), [write_row(3, None, sendings=sendings)], twice)

    def test_not_twice(self):
        self.check(("", -1), [write_row(0)], [commit(10), commit(11, sequence=1), commit(12, generation=1)])
        self.check(("", -1), [write_row(0)], [commit(10), commit(11, d=1)])
        self.check(("", -1), [read_row(0)], [fetch(10), fetch(11)])
        self.check(("", -1), [read_row(0)], [commit(4, 1), commit(5, 1), fetch(10)])

    def test_answer_of_the_last_fetch(self):
        log = [commit(3, sequence=9), fetch(10, values=V)]
        self.check(("", -1), [read_row(0, ("ok", V))], log)
        for values in (ZEROS, (5, 6, 7, 9), V[:3], (*V, 0)):
            self.check(("answer", 0), [read_row(0, ("ok", values))], log)

    def test_answer_of_the_last_sending(self):
        sendings = ((0, 0, 0, 2), (1, 0, 0, 2))
        log = [fetch(8), commit(9, sequence=9), fetch(12, values=V, generation=1)]
        self.check(("", -1), [read_row(0, ("ok", V), sendings=sendings)], log)
        self.check(("answer", 0), [read_row(0, sendings=sendings)], log)
        # The last fetch counts, not the one before the answer; without one the values are from nowhere.
        self.check(("", -1), [read_row(0, ("ok", V))], [fetch(8), commit(9, sequence=9), fetch(25, values=V)])
        self.check(("answer", 0), [read_row(0, ("ok", ZEROS))], [fetch(8), commit(9, sequence=9), fetch(25, values=V)])
        self.check(("answer", 0), [read_row(0, sendings=sendings)], log[:1])

    def test_answer_of_reads_that_are_answered(self):
        for answer in (None, ("broken", None)):
            self.check(("", -1), [read_row(0, answer)], [fetch(10, values=V)])
        self.check(("", -1), [write_row(0)], [commit(5), fetch(10, 3, V)])

    def test_a_fetch_that_is_not_plain(self):
        rows = [write_row(0, sendings=((0, 5, 1, 3),)), read_row(1), read_row(2, ("ok", V), sendings=((0, 1, 2, 4),))]
        log = [fetch(4), commit(6, 3, V, 0, 5), fetch(8, 3, V, 0, 1)]
        self.check(("", -1), rows, log)
        # The first row with an ok read is named, whichever fetch it was.
        other = (0, 0, 0, 1)
        for bad in (fetch(9, 3, ZEROS, 7, 7), fetch(9, 2, V, 7, 7), fetch(5, 3, V, 7, 7), fetch(30, 0, other, 0, 9)):
            self.check(("answer", 1), rows, sorted([*log, bad]))
        self.check(("", -1), rows, sorted([*log, fetch(9, 3, V, 7, 7)]))
        self.check(("", -1), rows, sorted([*log, fetch(9, 3, ZEROS, 7, 7, d=1), commit(7, 3, ZEROS, 8, 8, d=1)]))
        self.check(("answer", 2), [rows[0], read_row(1, None), rows[2]], [*log, fetch(9, 2, V, 7, 7)])
        self.check(("", -1), rows[:1], [*log, fetch(9, 2, V, 7, 7)])

    def test_a_fetch_behind_several_commits(self):
        nines = (9, 9, 9, 9)
        log = [commit(3, 1, V, 1, 1), commit(4, 1, nines, 1, 2), commit(5, 2, V, 1, 3), fetch(10, 1, nines)]
        self.check(("", -1), [read_row(0, ("ok", nines), block=1)], log)
        log[-1] = fetch(10, 1, V)
        self.check(("answer", 0), [read_row(0, ("ok", V), block=1)], log)

    def test_the_order_of_the_faults(self):
        rows = [
            read_row(0, ("ok", V)), write_row(1, sendings=((0, 1, 1, 3),)), write_row(2, sendings=((0, 2, 2, 4),)),
        ]
        log = [fetch(4), commit(5, sequence=1), commit(6, sequence=1)]
        self.check(("missing", 2), rows, log)
        self.check(("twice", 1), rows, [*log, commit(7, sequence=2)])
        self.check(("answer", 0), rows, [*log[:2], commit(7, sequence=2)])

    def test_of_the_other_device(self):
        self.check(("", -1), [write_row(0)], [commit(10, d=1)], 1)
        self.check(("missing", 0), [write_row(0)], [commit(10)], 1)
        self.check(("twice", 0), [write_row(0)], [commit(10, d=1), commit(11, d=1)], 1)


class Moment:
    """The story of one read, of which each part can be told in another way."""

    def __init__(self, d=0, tag=0, frame=2):
        self.d = d
        self.tag = tag
        self.frame = frame
        self.memory = Memory()

    def drive(self, *request):
        return self.memory.access(("driver", self.d), request)[1]

    def cell(self, index):
        return frame_cell(self.d, self.frame, index)

    def zeros(self, *indices):
        for index in indices or range(4):
            self.drive("write", self.cell(index), 0)

    def lend(self, right="w", page=None):
        return self.drive("write", table_word(self.d, page or 2 + self.tag), (self.frame, right))

    def fill(self, *pairs, page=None):
        for index, value in pairs or tuple(enumerate(V)):
            made = self.memory.access(("device", self.d), ("dma write", page or 2 + self.tag, index, value))
            assert made[0] is True

    def give_back(self, page=None):
        page = page or 2 + self.tag
        self.drive("write", table_word(self.d, page), None)
        self.drive("command", page)
        self.memory.access(("guard", self.d), ("drop",))
        return self.look()

    def lend_once(self):
        """All that stands before the reads of the frame."""
        self.zeros()
        self.lend()
        self.fill()
        self.give_back()

    def look(self):
        return self.drive("read", acknowledge(self.d))

    def read(self, *indices):
        for index in indices or range(4):
            last = self.drive("read", self.cell(index))
        return last

    def row(self, last, index=0, answer=("ok", V)):
        return (index, ("read", 3), answer, 1, last, ((0, 0, self.tag, self.frame),))


class Moments(unittest.TestCase):
    def check(self, told, story, last, rows=None):
        rows = rows if rows is not None else [story.row(last)]
        log = story.memory.log()
        before = (list(rows), list(log))
        self.assertEqual(moment_fault(rows, log, story.d), told)
        self.assertEqual((rows, log), before)

    def stories(self):
        return [Moment(d, tag, frame) for d in range(2) for tag in range(4) for frame in range(2, 6)]

    def test_of_one_moment(self):
        for story in self.stories():
            story.lend_once()
            self.check(-1, story, story.read())
            self.assertEqual(log_fault(story.memory.log()), ("", -1))

    def test_zeros_that_stayed(self):
        for filled in ((), (0,), (3,), (1, 2), (0, 2, 3)):
            story = Moment()
            story.zeros()
            story.lend()
            for index in filled:
                story.fill((index, 9), (index, 8))
            story.give_back()
            self.check(-1, story, story.read())

    def test_without_zeros(self):
        for missing in range(4):
            story = Moment()
            story.lend()
            story.fill(*[(index, 9) for index in range(4) if index != missing])
            story.give_back()
            self.check(0, story, story.read())
        story = Moment()
        story.lend()
        story.fill()
        story.give_back()
        self.check(-1, story, story.read())

    def test_other_values_of_the_driver(self):
        for value in (1, -1, None, "0", (0,)):
            story = Moment()
            story.zeros()
            story.drive("write", story.cell(2), value)
            story.lend()
            story.fill((0, 1), (1, 1), (3, 1))
            story.give_back()
            self.check(0, story, story.read())

    def test_a_lending_that_has_not_ended(self):
        for left_out in ("word", "command", "drop", "look"):
            story = Moment()
            story.zeros()
            story.lend()
            story.fill()
            if left_out != "word":
                story.drive("write", table_word(0, 2), None)
            if left_out != "command":
                story.drive("command", 2)
            if left_out != "drop":
                story.memory.access(("guard", 0), ("drop",))
            if left_out != "look":
                story.look()
            self.check(0, story, story.read())

    def test_no_lending(self):
        story = Moment()
        story.zeros()
        self.check(0, story, story.read())

    def test_a_lending_of_another_page_or_frame(self):
        for tag, frame in ((1, 2), (0, 3)):
            story = Moment()
            story.lend_once()
            last = story.read()
            row = (0, ("read", 3), ("ok", V), 1, last, ((0, 0, tag, frame),))
            self.check(0, story, last, [row])

    def test_the_last_sending_counts(self):
        story = Moment()
        story.lend_once()
        last = story.read()
        for sendings, told in ((((0, 0, 1, 3), (1, 0, 0, 2)), -1), (((0, 0, 0, 2), (1, 0, 1, 3)), 0)):
            self.check(told, story, last, [(0, ("read", 3), ("ok", V), 1, last, sendings)])

    def test_a_lending_that_ends_behind_the_reads(self):
        for many in range(1, 5):
            story = Moment()
            story.zeros()
            story.lend()
            story.fill()
            story.read(*range(many))
            end = story.give_back()
            last = story.read(*range(many, 4)) if many < 4 else end
            self.check(0, story, last)

    def test_reads_that_are_not_ascending_or_missing(self):
        for told in ("3210", "1023", "0213", "0132", "0000", "012", "013", "123"):
            order = [int(index) for index in told]
            story = Moment()
            story.lend_once()
            self.check(0, story, story.read(*order))

    def test_the_last_read_is_the_last_access_of_the_row(self):
        story = Moment()
        story.lend_once()
        last = story.read()
        behind = story.look()
        self.check(-1, story, last)
        for number in (last - 1, behind, behind + 1):
            self.check(0, story, number)

    def test_a_write_behind_the_end(self):
        for place in range(5):
            for index in range(4):
                story = Moment()
                story.lend_once()
                for at in range(4):
                    if at == place:
                        story.zeros(index)
                    last = story.read(at)
                if place == 4:
                    story.zeros(index)
                self.check(-1 if place == 4 else 0, story, last)

    def test_a_write_of_the_device_behind_the_end(self):
        for index in range(4):
            for place in range(5):
                story = Moment()
                story.zeros()
                story.lend()
                story.fill()
                # Another page leads to the same frame.
                story.lend(page=5)
                story.give_back()
                for at in range(4):
                    if at == place:
                        story.fill((index, 9), page=5)
                    last = story.read(at)
                if place == 4:
                    story.fill((index, 9), page=5)
                self.check(-1 if place == 4 else 0, story, last)

    def test_writes_of_other_frames(self):
        story = Moment()
        other = Moment(frame=3)
        other.memory = story.memory
        story.lend_once()
        story.read(0, 1, 2)
        other.zeros()
        self.check(-1, story, story.read(3))

    def test_zeros_before_the_lending_before_had_ended(self):
        for late in range(3):
            story = Moment()
            if late < 1:
                story.zeros()
            story.lend("r", page=5)
            if late == 1:
                story.zeros()
            story.give_back(5)
            if late == 2:
                story.zeros()
            story.lend()
            story.give_back()
            self.check(-1 if late == 2 else 0, story, story.read())

    def test_the_lending_before_was_of_the_same_page(self):
        for again in (False, True):
            story = Moment()
            story.lend_once()
            first = story.read()
            if again:
                story.zeros()
            story.lend()
            story.give_back()
            last = story.read()
            self.check(-1, story, first)
            self.check(-1 if again else 0, story, last)
            rows = [story.row(first), story.row(last, 1)]
            self.check(-1 if again else 1, story, last, rows)

    def test_a_lending_before_that_has_not_ended(self):
        story = Moment()
        story.lend("r", page=5)
        story.zeros()
        story.lend()
        story.give_back()
        self.check(0, story, story.read())
        story = Moment()
        story.lend("r", page=5)
        story.lend_once()
        self.check(-1, story, story.read())

    def test_an_earlier_lending_of_the_page_has_ended(self):
        story = Moment()
        story.lend_once()
        story.zeros()
        story.lend()
        story.fill()
        self.check(0, story, story.read())

    def test_the_lending_right_before_counts(self):
        for late in (False, True):
            story = Moment()
            story.lend_once()
            if not late:
                story.zeros()
            story.lend("r", page=5)
            story.give_back(5)
            if late:
                story.zeros()
            story.lend()
            story.give_back()
            self.check(-1 if late else 0, story, story.read())

    def test_the_reads_are_the_driver_s(self):
        for missing in range(4):
            story = Moment()
            story.lend_once()
            story.lend("r", page=5)
            for index in range(4):
                if index == missing:
                    last = story.memory.access(("device", 0), ("dma read", 5, index))[1]
                else:
                    last = story.read(index)
            self.check(0, story, last)

    def test_the_device_has_written_before_the_lending(self):
        story = Moment()
        story.lend(page=5)
        story.fill((1, 9), page=5)
        story.lend()
        story.fill((0, 9), (2, 9), (3, 9))
        story.give_back()
        self.check(0, story, story.read())

    def test_a_lending_behind_the_row(self):
        story = Moment()
        story.lend_once()
        last = story.read()
        story.zeros()
        story.lend()
        self.check(-1, story, last)

    def test_other_rows_have_it_never(self):
        story = Moment()
        rows = [
            (0, ("write", 0, V), OK, 1, 9, ((0, 0, 0, 2),)), (1, ("read", 0), None, 1, None, ()),
            (2, ("read", 0), ("broken", None), 1, 9, ((0, 0, 0, 2),)), (3, ("write", 0, V), ("broken", None), 1, 9, ()),
        ]
        self.check(-1, story, None, rows)
        self.check(-1, story, None, [])
        self.check(7, story, None, [*rows, story.row(9, 7), story.row(9, 8)])

    def test_of_the_other_device(self):
        story = Moment(1)
        story.lend_once()
        last = story.read()
        log = story.memory.log()
        self.assertEqual(moment_fault([story.row(last)], log, 1), -1)
        self.assertEqual(moment_fault([story.row(last)], log, 0), 0)


if __name__ == "__main__":
    unittest.main()
