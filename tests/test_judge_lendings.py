"""Points 29, 30 and 31: lendings, and the faults of a log."""

import random
import unittest

from ringbound.judge import lendings, log_fault
from ringbound.memory import Memory, acknowledge, doorbell, frame_cell, table_word


class Story:
    """A memory of which one device's actors are moved by hand."""

    def __init__(self, d=0, memory=None):
        self.d = d
        self.memory = memory or Memory()

    def drive(self, *request):
        return self.memory.access(("driver", self.d), request)[1]

    def device(self, *request):
        return self.memory.access(("device", self.d), request)[1]

    def lend(self, page, word):
        return self.drive("write", table_word(self.d, page), word)

    def command(self, page):
        return self.drive("command", page)

    def drop(self):
        return self.memory.access(("guard", self.d), ("drop",))[1]

    def look(self):
        return self.drive("read", acknowledge(self.d))

    def give_back(self, page):
        self.lend(page, None)
        self.command(page)
        self.drop()
        return self.look()

    def deceive(self, page):
        """The driver takes its first ticket for acknowledged, but the guard has dropped nothing."""
        self.lend(page, None)
        self.command(page)
        self.drive("write", acknowledge(self.d), 1)
        return self.look()

    def lendings(self):
        return lendings(self.memory.log())

    def fault(self):
        return log_fault(self.memory.log())


def told_lendings(log):
    """Point 30, word by word: each lending is looked for from its beginning on."""
    found = []
    for number, (role, d), request, _ in log:
        words = [table_word(d, page) for page in range(6)]
        if role != "driver" or request[0] != "write" or request[1] not in words or request[2] is None:
            continue
        page = words.index(request[1])
        mine = [entry for entry in log if entry[1] == ("driver", d)]
        nones = [n for n, _, made, _ in mine if n > number and made == ("write", words[page], None)]
        commands = [(n, result) for n, _, made, result in mine if nones and n > nones[0] and made == ("command", page)]
        ends = [
            n for n, _, made, result in mine
            if commands and n > commands[0][0] and made == ("read", acknowledge(d))
            and type(result) is int and result >= commands[0][1]
        ]
        found.append((d, page, *request[2], number, ends[0] if ends else None))
    return found


def told_fault(log):
    """Point 31, word by word."""
    kept, tables = {}, {}
    for number, (role, d), request, result in log:
        if role == "driver" and request[0] in ("read", "write"):
            for frame in range(2, 6):
                is_cell = request[1] in [frame_cell(d, frame, index) for index in range(4)]
                if is_cell and [entry for entry in around(log, number, d) if entry[2] == frame]:
                    return ("hand", number)
            for page in range(6):
                if request[0] == "write" and request[1] == table_word(d, page):
                    tables[d, page] = request[2]
        elif request[0] in ("dma read", "dma write"):
            page = request[1]
            if (d, page) not in kept and tables.get((d, page)) is not None:
                kept[d, page] = tables[d, page]
            right = "r" if request[0] == "dma read" else "w"
            if result not in (None, False):
                frame = kept[d, page][0]
                if not [entry for entry in around(log, number, d) if entry[2:4] == (frame, right)]:
                    return ("lent", number)
        elif request == ("drop",) and result:
            commands = [made[1] for _, actor, made, _ in log if actor == ("driver", d) and made[0] == "command"]
            done = [n for n, actor, made, answer in log if made == ("drop",) and actor[1] == d and answer]
            kept.pop((d, commands[done.index(number)]), None)
    return ("", -1)


def around(log, number, d):
    return [entry for entry in told_lendings(log) if entry[0] == d and entry[4] < number
            and (entry[5] is None or entry[5] > number)]


class Lendings(unittest.TestCase):
    def test_nothing(self):
        self.assertEqual(lendings([]), [])
        story = Story()
        story.lend(3, None)
        story.command(3)
        story.drop()
        story.look()
        self.assertEqual(story.lendings(), [])

    def test_each_page_frame_and_right(self):
        for d in range(2):
            for page in range(6):
                for word in [(frame, right) for frame in range(6) for right in "rw"]:
                    story = Story(d)
                    story.device("read", doorbell(d))
                    begin = story.lend(page, word)
                    self.assertEqual(story.lendings(), [(d, page, *word, begin, None)])
                    end = story.give_back(page)
                    self.assertEqual(story.lendings(), [(d, page, *word, begin, end)])
                    story.look()
                    self.assertEqual(story.lendings(), [(d, page, *word, begin, end)])
                    self.assertEqual((begin, end), (2, 6))

    def test_each_part_of_the_end_is_needed(self):
        told = [("lend", 2, None), ("command", 2), ("drop",), ("look",)]
        for left_out in range(4):
            story = Story()
            story.lend(2, (2, "w"))
            for at, (word, *parts) in enumerate(told):
                if at != left_out:
                    getattr(story, word)(*parts)
            self.assertEqual(story.lendings(), [(0, 2, 2, "w", 1, None)], told[left_out])

    def test_a_command_before_the_none(self):
        story = Story()
        story.lend(2, (2, "w"))
        story.command(2)
        story.lend(2, None)
        story.drop()
        story.look()
        self.assertEqual(story.lendings(), [(0, 2, 2, "w", 1, None)])
        story.command(2)
        story.look()
        story.drop()
        self.assertEqual(story.look(), 9)
        self.assertEqual(story.lendings(), [(0, 2, 2, "w", 1, 9)])

    def test_a_ticket_of_another_page(self):
        story = Story()
        story.lend(2, (2, "w"))
        story.lend(3, (3, "w"))
        story.lend(2, None)
        story.command(3)
        story.drop()
        story.look()
        self.assertEqual([entry[5] for entry in story.lendings()], [None, None])
        story.command(2)
        story.drop()
        end = story.look()
        self.assertEqual([entry[5] for entry in story.lendings()], [end, None])

    def test_a_reading_that_is_too_low(self):
        story = Story()
        for page in (2, 3):
            story.lend(page, (page, "r"))
        for page in (2, 3):
            story.lend(page, None)
        for page in (2, 3):
            story.command(page)
        story.look()
        story.drop()
        first = story.look()
        self.assertEqual([entry[5] for entry in story.lendings()], [first, None])
        story.drop()
        second = story.look()
        self.assertEqual([entry[5] for entry in story.lendings()], [first, second])

    def test_a_reading_that_is_higher(self):
        story = Story()
        for page in (2, 3):
            story.lend(page, (page, "r"))
            story.lend(page, None)
        story.command(2)
        story.command(3)
        story.drop()
        story.drop()
        end = story.look()
        self.assertEqual([entry[5] for entry in story.lendings()], [end, end])

    def test_the_first_command_counts(self):
        story = Story()
        story.lend(2, (2, "w"))
        story.lend(2, None)
        story.command(2)
        story.command(2)
        story.drop()
        end = story.look()
        self.assertEqual(story.lendings(), [(0, 2, 2, "w", 1, end)])

    def test_a_none_that_is_written_twice(self):
        story = Story()
        story.lend(2, (2, "w"))
        story.lend(2, None)
        story.command(2)
        story.lend(2, None)
        story.drop()
        end = story.look()
        self.assertEqual(story.lendings(), [(0, 2, 2, "w", 1, end)])
        story = Story()
        story.lend(2, (2, "w"))
        story.lend(2, None)
        story.lend(2, None)
        story.command(2)
        story.drop()
        end = story.look()
        self.assertEqual(story.lendings(), [(0, 2, 2, "w", 1, end)])

    def test_a_word_that_is_written_anew(self):
        story = Story()
        story.lend(2, (2, "w"))
        story.lend(2, (3, "r"))
        story.lend(2, (3, "r"))
        self.assertEqual(story.lendings(), [(0, 2, 2, "w", 1, None), (0, 2, 3, "r", 2, None), (0, 2, 3, "r", 3, None)])
        end = story.give_back(2)
        self.assertEqual(story.lendings(), [(0, 2, 2, "w", 1, end), (0, 2, 3, "r", 2, end), (0, 2, 3, "r", 3, end)])

    def test_a_word_that_is_written_before_the_command(self):
        story = Story()
        story.lend(2, (2, "w"))
        story.lend(2, None)
        story.lend(2, (3, "w"))
        story.command(2)
        story.drop()
        end = story.look()
        self.assertEqual(story.lendings(), [(0, 2, 2, "w", 1, end), (0, 2, 3, "w", 3, None)])

    def test_other_actors_and_the_other_device(self):
        memory = Memory()
        stories = [Story(d, memory) for d in range(2)]
        for story in stories:
            story.lend(2, (2, "w"))
        stories[0].lend(2, None)
        stories[1].command(2)
        stories[1].drop()
        stories[1].look()
        self.assertEqual([entry[5] for entry in lendings(memory.log())], [None, None])
        stories[0].command(2)
        stories[1].look()
        stories[0].drop()
        stories[1].look()
        self.assertEqual([entry[5] for entry in lendings(memory.log())], [None, None])
        end = stories[0].look()
        self.assertEqual(lendings(memory.log()), [(0, 2, 2, "w", 1, end), (1, 2, 2, "w", 2, None)])

    def test_an_acknowledge_word_that_is_no_number(self):
        story = Story()
        story.lend(2, (2, "w"))
        story.lend(2, None)
        story.command(2)
        for value in (None, "9", (9,), 0):
            story.drive("write", acknowledge(0), value)
            story.look()
        self.assertEqual(story.lendings(), [(0, 2, 2, "w", 1, None)])
        story.drive("write", acknowledge(0), 1)
        end = story.look()
        self.assertEqual(story.lendings(), [(0, 2, 2, "w", 1, end)])

    def test_by_from(self):
        story = Story()
        for page in (5, 2, 4, 2, 3):
            story.lend(page, (page, "w"))
        self.assertEqual([(entry[1], entry[4]) for entry in story.lendings()], [(5, 1), (2, 2), (4, 3), (2, 4), (3, 5)])


class Faults(unittest.TestCase):
    def test_none(self):
        self.assertEqual(log_fault([]), ("", -1))
        for d in range(2):
            story = Story(d)
            story.drive("write", frame_cell(d, 2, 0), 7)
            story.lend(2, (2, "w"))
            story.device("dma write", 2, 0, 1)
            story.device("dma read", 2, 0)
            story.give_back(2)
            story.device("dma write", 2, 0, 2)
            story.drive("read", frame_cell(d, 2, 0))
            story.lend(2, (2, "r"))
            story.device("dma read", 2, 0)
            story.device("dma write", 2, 0, 3)
            self.assertEqual(story.fault(), ("", -1))

    def test_an_entry_that_is_still_kept_is_lent(self):
        for right, use in (("w", ("dma write", 2, 0, 1)), ("r", ("dma read", 2, 0))):
            story = Story()
            story.lend(2, (3, right))
            story.device(*use)
            story.lend(2, None)
            story.device(*use)
            story.command(2)
            story.device(*use)
            self.assertEqual(story.fault(), ("", -1))

    def test_behind_the_acknowledged_ticket(self):
        for d in range(2):
            for right, use in (("w", ("dma write", 2, 0, 1)), ("r", ("dma read", 2, 0))):
                story = Story(d)
                story.lend(2, (3, right))
                story.device(*use)
                story.lend(2, None)
                story.command(2)
                # A driver that deceives itself: the guard has dropped nothing.
                story.drive("write", acknowledge(d), 1)
                story.device(*use)
                self.assertEqual(story.fault(), ("", -1))
                story.look()
                self.assertEqual(story.fault(), ("", -1))
                bad = story.device(*use)
                self.assertEqual(story.fault(), ("lent", bad))
                story.device(*use)
                self.assertEqual(story.fault(), ("lent", bad))

    def test_refused_uses_are_none(self):
        for d in range(2):
            story = Story(d)
            story.device("dma write", 2, 0, 1)
            story.device("dma read", 2, 0)
            story.lend(2, (3, "r"))
            story.device("dma write", 2, 0, 1)
            self.assertEqual(story.fault(), ("", -1))

    def test_a_lending_of_the_other_right(self):
        for right, use in (("w", ("dma write", 2, 1, 1)), ("r", ("dma read", 2, 1))):
            other = "r" if right == "w" else "w"
            story = Story()
            story.lend(2, (3, right))
            story.device(*use)
            story.deceive(2)
            story.lend(4, (3, other))
            bad = story.device(*use)
            self.assertEqual(story.fault(), ("lent", bad))

    def test_a_lending_of_the_same_frame_by_another_page(self):
        story = Story()
        story.lend(2, (3, "w"))
        story.device("dma write", 2, 0, 1)
        story.deceive(2)
        story.lend(4, (3, "w"))
        story.device("dma write", 2, 0, 1)
        self.assertEqual(story.fault(), ("", -1))

    def test_the_entry_leads_and_not_the_word(self):
        story = Story()
        story.lend(2, (3, "w"))
        story.device("dma write", 2, 0, 1)
        story.deceive(2)
        story.lend(2, (4, "w"))
        bad = story.device("dma write", 2, 0, 1)
        self.assertEqual(story.memory.peek(frame_cell(0, 3, 0)), 1)
        self.assertEqual(story.fault(), ("lent", bad))

    def test_an_entry_that_a_refused_use_has_kept(self):
        story = Story()
        story.lend(2, (3, "w"))
        story.device("dma read", 2, 0)
        story.deceive(2)
        bad = story.device("dma write", 2, 0, 1)
        self.assertEqual(story.fault(), ("lent", bad))

    def test_an_entry_that_was_dropped(self):
        story = Story()
        story.lend(2, (3, "w"))
        story.device("dma write", 2, 0, 1)
        story.lend(2, (4, "w"))
        story.command(2)
        story.drop()
        story.device("dma write", 2, 0, 1)
        self.assertEqual(story.memory.peek(frame_cell(0, 4, 0)), 1)
        self.assertEqual(story.fault(), ("", -1))

    def test_ring_frames_are_judged_for_devices_alone(self):
        for frame in (0, 1):
            story = Story()
            story.lend(frame, (frame, "rw"[frame]))
            story.drive("write", frame_cell(0, frame, 0), 1)
            story.drive("read", frame_cell(0, frame, 0))
            self.assertEqual(story.fault(), ("", -1))
        story.device("dma write", 1, 0, 1)
        story.deceive(1)
        bad = story.device("dma write", 1, 0, 1)
        self.assertEqual(story.fault(), ("lent", bad))

    def test_hand(self):
        for d in range(2):
            for frame in range(2, 6):
                for index in range(4):
                    for right in "rw":
                        for use in (("read", frame_cell(d, frame, index)), ("write", frame_cell(d, frame, index), 0)):
                            story = Story(d)
                            story.drive(*use)
                            story.lend(5, (frame, right))
                            self.assertEqual(story.fault(), ("", -1))
                            bad = story.drive(*use)
                            self.assertEqual(story.fault(), ("hand", bad))

    def test_hand_until_the_end_of_the_lending(self):
        told = [("lend", 2, None), ("command", 2), ("drop",), ("look",)]
        for many in range(5):
            story = Story()
            story.lend(2, (3, "w"))
            for word, *parts in told[:many]:
                getattr(story, word)(*parts)
            bad = story.drive("read", frame_cell(0, 3, 3))
            self.assertEqual(story.fault(), ("", -1) if many == 4 else ("hand", bad))

    def test_another_frame_or_device_is_no_hand(self):
        memory = Memory()
        story, other = Story(0, memory), Story(1, memory)
        story.lend(2, (3, "w"))
        story.drive("read", frame_cell(0, 2, 3))
        story.drive("write", frame_cell(0, 4, 0), 0)
        other.drive("write", frame_cell(1, 3, 0), 0)
        self.assertEqual(story.fault(), ("", -1))
        other.lend(2, (3, "w"))
        bad = other.drive("write", frame_cell(1, 3, 0), 0)
        self.assertEqual(story.fault(), ("hand", bad))

    def test_the_first_one_is_told(self):
        for first in ("lent", "hand"):
            story = Story()
            story.lend(2, (3, "w"))
            story.device("dma write", 2, 0, 1)
            story.deceive(2)
            story.lend(4, (4, "r"))
            uses = [lambda: story.device("dma write", 2, 0, 1), lambda: story.drive("read", frame_cell(0, 4, 0))]
            numbers = [use() for use in (uses if first == "lent" else uses[::-1])]
            self.assertEqual(story.fault(), (first, numbers[0]))


class Drawn(unittest.TestCase):
    def draw(self, seed):
        """A log of accesses that nobody would make."""
        drawn = random.Random(seed)
        story = Story()
        stories = [story, Story(1, story.memory)]
        for _ in range(drawn.randrange(20, 90)):
            one = stories[0 if drawn.random() < 0.85 else 1]
            page = drawn.choice((1, 2))
            word = (drawn.choice((1, 2, 3)), drawn.choice("rw"))
            way = drawn.randrange(10)
            if way < 2:
                one.lend(page, word)
            elif way < 4:
                one.lend(page, None)
            elif way < 5:
                one.command(page)
            elif way < 6:
                one.drop()
            elif way < 7:
                one.look()
            elif way < 9:
                one.device(*drawn.choice((("dma read", page, 0), ("dma write", page, 0, 1))))
            elif drawn.random() < 0.1:
                one.drive("read", frame_cell(one.d, drawn.choice((1, 2, 3)), 0))
            else:
                one.drive("write", acknowledge(one.d), drawn.randrange(8))
        return story.memory.log()

    def test_as_the_document_says(self):
        words = []
        for seed in range(400):
            log = self.draw(seed)
            before = list(log)
            self.assertEqual(lendings(log), told_lendings(log), seed)
            self.assertEqual(log_fault(log), told_fault(log), seed)
            self.assertEqual(log, before)
            words.append(log_fault(log)[0])
        self.assertEqual(sorted(set(words)), ["", "hand", "lent"])


if __name__ == "__main__":
    unittest.main()
