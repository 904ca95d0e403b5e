"""Points 11 to 14: where entries stand, what they are made of, and which of them are new."""

import unittest

from ringbound import rings
from ringbound.errors import NotValid
from ringbound.rings import (
    buffer_page, completion, descriptor, is_new_completion, is_new_descriptor, phase_of, slot_of,
)

NO_INTEGERS = (None, "0", "", "read", (0,), (), [0], {}, 0.0, 1.0, b"0", True, False)
NO_WORDS = (None, "", "Read", "READ", "reads", "read ", "done", 0, 1, True, False, ("read",), ["read"], b"read")
NO_TUPLES = (None, 0, 1, -1, 10**30, 0.5, True, False, "", "read", b"read", {}, {1: 2}, {1}, object(), int)
LARGE = (4 * 10**30, 8 * 10**30 + 3, 2**64 - 1, 2**64, 10**40 + 5)


class Equal:
    """Equal to everything, and of no kind that an entry has."""

    def __eq__(self, other):
        return True

    def __hash__(self):
        return 0


class Slots(unittest.TestCase):
    def test_numbers(self):
        self.assertEqual((rings.SLOTS, rings.TAGS, rings.SUBMISSIONS, rings.COMPLETIONS), (4, 4, 0, 1))

    def test_buffer_pages(self):
        self.assertEqual([buffer_page(tag) for tag in range(4)], [2, 3, 4, 5])

    def test_slots(self):
        self.assertEqual([slot_of(number) for number in range(21)], [0, 1, 2, 3] * 5 + [0])
        self.assertEqual([slot_of(number) for number in LARGE], [0, 3, 3, 0, 1])

    def test_phases(self):
        told = [1] * 4 + [0] * 4 + [1] * 4 + [0] * 4 + [1] * 4 + [0]
        self.assertEqual([phase_of(number) for number in range(21)], told)
        for number in LARGE:
            self.assertEqual(phase_of(number), 1 if (number // 4) % 2 == 0 else 0)
        self.assertEqual([phase_of(8 * 10**30 + more) for more in (0, 3, 4, 7, 8)], [1, 1, 0, 0, 1])

    def test_phases_are_integers(self):
        for number in range(21):
            self.assertIs(type(phase_of(number)), int)


class Descriptors(unittest.TestCase):
    def refuse(self, *parts):
        with self.subTest(parts=parts), self.assertRaises(NotValid):
            descriptor(*parts)

    def test_example(self):
        self.assertEqual(descriptor(2, "read", 5, 6), (2, "read", 5, 0, 6))

    def test_every_tag_kind_and_block(self):
        for tag in range(4):
            for kind in ("read", "write"):
                for block in range(8):
                    self.assertEqual(descriptor(tag, kind, block, 3), (tag, kind, block, 1, 3))

    def test_sequences(self):
        for sequence in (*range(21), *LARGE):
            self.assertEqual(descriptor(0, "write", 7, sequence), (0, "write", 7, phase_of(sequence), sequence))

    def test_parts_beyond_their_bounds(self):
        for tag in (-1, 4, 5, 10**30, -(10**30)):
            self.refuse(tag, "read", 0, 0)
        for block in (-1, 8, 9, 10**30, -(10**30)):
            self.refuse(0, "read", block, 0)
        for sequence in (-1, -2, -(10**30)):
            self.refuse(0, "read", 0, sequence)

    def test_parts_of_other_kinds(self):
        for part in NO_INTEGERS:
            self.refuse(part, "read", 0, 0)
            self.refuse(0, "read", part, 0)
            self.refuse(0, "read", 0, part)
        for kind in NO_WORDS:
            self.refuse(0, kind, 0, 0)
        for parts in ((Equal(), "read", 0, 0), (0, Equal(), 0, 0), (0, "read", Equal(), 0), (0, "read", 0, Equal())):
            self.refuse(*parts)


class Completions(unittest.TestCase):
    def refuse(self, *parts):
        with self.subTest(parts=parts), self.assertRaises(NotValid):
            completion(*parts)

    def test_example(self):
        self.assertEqual(completion(2, 9), (2, "done", 1))

    def test_tags_and_numbers(self):
        for tag in range(4):
            for number in (*range(21), *LARGE):
                self.assertEqual(completion(tag, number), (tag, "done", phase_of(number)))

    def test_parts_beyond_their_bounds(self):
        for tag in (-1, 4, 5, 10**30, -(10**30)):
            self.refuse(tag, 0)
        for number in (-1, -2, -(10**30)):
            self.refuse(0, number)

    def test_parts_of_other_kinds(self):
        for part in (*NO_INTEGERS, Equal()):
            self.refuse(part, 0)
            self.refuse(0, part)


class NewDescriptors(unittest.TestCase):
    def check(self, value, number, told):
        with self.subTest(value=value, number=number):
            self.assertIs(is_new_descriptor(value, number), told)

    def test_example(self):
        for number, told in ((6, True), (2, False), (14, False)):
            self.check((2, "read", 5, 0, 6), number, told)

    def test_the_number_itself_alone(self):
        for number in (*range(21), *LARGE):
            value = descriptor(number % 4, "write", number % 8, number)
            for other in (number - 8, number - 4, number - 1, number, number + 1, number + 4, number + 8):
                if other >= 0:
                    self.check(value, other, other == number)

    def test_every_tag_kind_and_block(self):
        for tag in range(4):
            for kind in ("read", "write"):
                for block in range(8):
                    self.check((tag, kind, block, 1, 0), 0, True)
                    self.check((tag, kind, block, 0, 0), 0, False)

    def test_other_phase_or_sequence(self):
        for number in (0, 1, 3, 4, 7, 8, 12, LARGE[0]):
            phase = phase_of(number)
            self.check((1, "read", 2, phase, number), number, True)
            self.check((1, "read", 2, 1 - phase, number), number, False)
            for wrong in (phase + 2, phase - 2, -phase - 1, str(phase), None, (phase,), bool(phase), float(phase)):
                self.check((1, "read", 2, wrong, number), number, False)
            for sequence in (number + 1, number + 4, number + 8, number - 1, number - 8, -number - 1):
                self.check((1, "read", 2, phase, sequence), number, False)

    def test_parts_that_are_wrong(self):
        for wrong in (*NO_INTEGERS, -1, 4, 10**30, Equal()):
            self.check((wrong, "read", 2, 1, 1), 1, False)
        for wrong in (*NO_WORDS, Equal()):
            self.check((0, wrong, 2, 1, 1), 1, False)
        for wrong in (*NO_INTEGERS, -1, 8, 10**30, Equal()):
            self.check((0, "read", wrong, 1, 1), 1, False)
        for wrong in (*NO_INTEGERS, Equal()):
            self.check((0, "read", 2, wrong, 1), 1, False)
            self.check((0, "read", 2, 1, wrong), 1, False)
            self.check((0, "read", 2, 1, wrong), 0, False)

    def test_values_of_other_forms(self):
        right = (2, "read", 5, 1, 0)
        self.check(right, 0, True)
        for value in (*NO_TUPLES, Equal(), (), (right,), list(right), right[::-1]):
            self.check(value, 0, False)
        for value in (right[:4], (*right, 0), (*right, None)):
            self.check(value, 0, False)
        self.check((2, "done", 1), 0, False)


class NewCompletions(unittest.TestCase):
    def check(self, value, number, told):
        with self.subTest(value=value, number=number):
            self.assertIs(is_new_completion(value, number), told)

    def test_example(self):
        self.check((2, "done", 1), 9, True)
        self.check((2, "done", 1), 1, True)

    def test_rounds(self):
        for number in (*range(21), *LARGE):
            for tag in range(4):
                value = completion(tag, number)
                self.check(value, number, True)
                self.check(value, number + 4, False)
                self.check(value, number + 8, True)
                if number >= 4:
                    self.check(value, number - 4, False)
                if number >= 8:
                    self.check(value, number - 8, True)

    def test_other_phase(self):
        for number in (0, 3, 4, 7, 8):
            phase = phase_of(number)
            self.check((1, "done", phase), number, True)
            for wrong in (1 - phase, phase + 2, phase - 2, str(phase), None, (phase,), bool(phase), float(phase)):
                self.check((1, "done", wrong), number, False)

    def test_parts_that_are_wrong(self):
        for wrong in (*NO_INTEGERS, -1, 4, 10**30, Equal()):
            self.check((wrong, "done", 1), 1, False)
        for wrong in (None, "", "Done", "done ", "don", "read", "broken", 0, 1, True, ("done",), ["done"], b"done"):
            self.check((1, wrong, 1), 1, False)
        self.check((1, Equal(), 1), 1, False)
        self.check((1, "done", Equal()), 1, False)

    def test_values_of_other_forms(self):
        right = (2, "done", 1)
        self.check(right, 0, True)
        for value in (*NO_TUPLES, Equal(), (), (right,), list(right), right[::-1]):
            self.check(value, 0, False)
        for value in (right[:2], (*right, 1), (*right, None)):
            self.check(value, 0, False)
        self.check((2, "read", 5, 1, 0), 0, False)


if __name__ == "__main__":
    unittest.main()
