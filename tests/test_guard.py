"""Points 3, 4 and 5: table words, and the guard of one device."""

import unittest

from ringbound import guard
from ringbound.guard import Guard, is_word


class Equal:
    """Equal to everything."""

    def __eq__(self, other):
        return True


class Words(unittest.TestCase):
    def test_numbers(self):
        self.assertEqual((guard.DEVICES, guard.PAGES, guard.FRAMES, guard.CELLS), (2, 6, 6, 4))

    def test_words(self):
        self.assertIs(is_word(None), True)
        for frame in range(6):
            for right in ("r", "w"):
                self.assertIs(is_word((frame, right)), True)

    def test_frames_that_do_not_exist(self):
        for frame in (-1, 6, 7, 10**30, -(10**30), None, "0", (0,), 0.0, True, False):
            self.assertIs(is_word((frame, "r")), False, frame)

    def test_rights_that_do_not_exist(self):
        for right in ("", "x", "R", "rw", "wr", "r ", None, 0, 1, ("r",), ["r"], b"r", True, False):
            self.assertIs(is_word((0, right)), False, right)

    def test_other_lengths(self):
        for value in ((), (0,), ("r",), (0, "r", None), (0, "r", "w"), ((0, "r"),)):
            self.assertIs(is_word(value), False, value)

    def test_other_kinds(self):
        for value in ([0, "r"], [], {}, {0: "r"}, {0, "r"}, "0r", "r", "", b"r", 0, 1, -1, 0.5, True, False, object):
            self.assertIs(is_word(value), False, value)
        self.assertIs(is_word(("r", 0)), False)
        for value in (Equal(), (0, Equal()), (Equal(), "r")):
            self.assertIs(is_word(value), False)


class Uses(unittest.TestCase):
    def test_example(self):
        one = Guard()
        self.assertEqual(one.use(2, "r", (4, "r")), 4)
        self.assertEqual(one.use(2, "r", None), 4)
        self.assertIsNone(one.use(2, "w", (5, "w")))
        one.command(2)
        one.drop()
        self.assertEqual(one.use(2, "w", (5, "w")), 5)

    def test_new_guard(self):
        one = Guard()
        self.assertEqual(one.entries(), [])
        self.assertEqual(one.queue(), [])
        self.assertIsNone(one.drop())

    def test_none_is_not_kept(self):
        one = Guard()
        self.assertIsNone(one.use(3, "r", None))
        self.assertIsNone(one.use(3, "w", None))
        self.assertEqual(one.entries(), [])
        self.assertEqual(one.use(3, "r", (0, "r")), 0)
        self.assertEqual(one.entries(), [(3, (0, "r"))])

    def test_entry_leads_whatever_the_word(self):
        one = Guard()
        self.assertEqual(one.use(0, "w", (2, "w")), 2)
        for word in (None, (3, "w"), (2, "r"), (5, "r"), (2, "w")):
            self.assertEqual(one.use(0, "w", word), 2)
            self.assertIsNone(one.use(0, "r", word))
            self.assertEqual(one.entries(), [(0, (2, "w"))])

    def test_refused_use_keeps_the_word(self):
        for right, other in (("r", "w"), ("w", "r")):
            one = Guard()
            self.assertIsNone(one.use(1, right, (4, other)))
            self.assertEqual(one.entries(), [(1, (4, other))])
            self.assertIsNone(one.use(1, right, (4, right)))
            self.assertEqual(one.use(1, other, (5, right)), 4)

    def test_every_page_and_frame(self):
        one = Guard()
        for page in range(6):
            self.assertEqual(one.use(page, "r", (5 - page, "r")), 5 - page)
        self.assertEqual(one.entries(), [(page, (5 - page, "r")) for page in range(6)])

    def test_entries_ascend(self):
        one = Guard()
        for page in (4, 0, 5, 2):
            one.use(page, "w", (1, "w"))
        self.assertEqual([page for page, word in one.entries()], [0, 2, 4, 5])


class Commands(unittest.TestCase):
    def test_tickets_and_order(self):
        one = Guard()
        self.assertEqual([one.command(page) for page in (3, 0, 3)], [1, 2, 3])
        self.assertEqual(one.queue(), [(3, 1), (0, 2), (3, 3)])
        self.assertEqual(one.drop(), 1)
        self.assertEqual(one.queue(), [(0, 2), (3, 3)])
        self.assertEqual(one.command(5), 4)
        self.assertEqual([one.drop(), one.drop(), one.drop(), one.drop()], [2, 3, 4, None])
        self.assertEqual(one.queue(), [])
        self.assertEqual(one.command(1), 5)

    def test_command_alone_drops_nothing(self):
        one = Guard()
        one.use(2, "r", (4, "r"))
        one.command(2)
        self.assertEqual(one.entries(), [(2, (4, "r"))])
        self.assertEqual(one.use(2, "r", None), 4)

    def test_drop_takes_the_entry_of_its_page_alone(self):
        one = Guard()
        for page in (1, 2, 3):
            one.use(page, "r", (page, "r"))
        one.command(2)
        self.assertEqual(one.drop(), 1)
        self.assertEqual(one.entries(), [(1, (1, "r")), (3, (3, "r"))])

    def test_drop_without_a_command_keeps_entries(self):
        one = Guard()
        one.use(2, "r", (4, "r"))
        self.assertIsNone(one.drop())
        self.assertEqual(one.entries(), [(2, (4, "r"))])
        self.assertEqual(one.command(2), 1)

    def test_drop_without_an_entry(self):
        one = Guard()
        one.use(1, "w", (0, "w"))
        one.command(2)
        self.assertEqual(one.drop(), 1)
        self.assertEqual(one.entries(), [(1, (0, "w"))])
        self.assertEqual(one.queue(), [])

    def test_several_commands_for_one_page(self):
        one = Guard()
        one.use(2, "r", (4, "r"))
        self.assertEqual([one.command(2), one.command(2)], [1, 2])
        self.assertEqual(one.drop(), 1)
        self.assertEqual(one.entries(), [])
        self.assertEqual(one.queue(), [(2, 2)])
        self.assertEqual(one.use(2, "w", (5, "w")), 5)
        self.assertEqual(one.drop(), 2)
        self.assertEqual(one.entries(), [])


class ReturnedLists(unittest.TestCase):
    def test_they_are_new_and_never_changed(self):
        one = Guard()
        one.use(2, "r", (4, "r"))
        one.command(2)
        entries, queue = one.entries(), one.queue()
        one.use(3, "w", (5, "w"))
        one.command(3)
        one.drop()
        self.assertEqual(entries, [(2, (4, "r"))])
        self.assertEqual(queue, [(2, 1)])
        one.entries().clear()
        one.queue().clear()
        self.assertEqual(one.entries(), [(3, (5, "w"))])
        self.assertEqual(one.queue(), [(3, 2)])

    def test_two_guards_share_nothing(self):
        one, other = Guard(), Guard()
        one.use(2, "r", (4, "r"))
        one.command(2)
        self.assertEqual((other.entries(), other.queue()), ([], []))
        self.assertEqual(other.command(0), 1)
        self.assertEqual(one.queue(), [(2, 1)])


if __name__ == "__main__":
    unittest.main()
