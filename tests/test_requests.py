"""Points 15 and 16: what a request is, and what the plain table answers."""

import unittest

from ringbound.requests import after_request, answer_of, is_request, new_table

ZEROS = (0, 0, 0, 0)


class Equal:
    """Equal to everything, and of no kind that a request has."""

    def __eq__(self, other):
        return True

    def __hash__(self):
        return 0


class Requests(unittest.TestCase):
    def check(self, told, *values):
        for value in values:
            with self.subTest(value=value):
                self.assertIs(is_request(value), told)

    def test_reads(self):
        self.check(True, *[("read", block) for block in range(8)])

    def test_writes(self):
        self.check(True, *[("write", block, (block, 2, 3, 4)) for block in range(8)])
        self.check(True, ("write", 0, (-1, -(10**30), 10**30, 0)), ("write", 7, ZEROS))

    def test_other_words(self):
        for word in ("", "Read", "WRITE", "read ", "done", "ok", None, 0, True, ("read",), ["read"], b"read", Equal()):
            self.check(False, (word, 0), (word, 0, ZEROS))

    def test_other_blocks(self):
        for block in (-1, 8, 9, 10**30, -(10**30), True, False, None, "0", (0,), [0], 0.0, Equal()):
            self.check(False, ("read", block), ("write", block, ZEROS))

    def test_other_lengths(self):
        self.check(False, (), ("read",), ("write",), ("read", 0, ZEROS), ("read", 0, None), ("read", 0, 0))
        self.check(False, ("write", 0), ("write", 0, ZEROS, 0), ("write", 0, 1, 2, 3, 4), (("read", 0),))

    def test_other_values(self):
        for values in ((), (1, 2, 3), (1, 2, 3, 4, 5), [1, 2, 3, 4], "1234", None, 4, True, {1, 2, 3, 4}, b"1234"):
            self.check(False, ("write", 0, values))
        for part in (None, True, False, "1", (1,), [1], 1.0, b"1", Equal()):
            for at in range(4):
                self.check(False, ("write", 0, tuple(part if at == k else k for k in range(4))))
        self.check(False, ("write", 0, Equal()))

    def test_other_kinds(self):
        self.check(False, None, 0, 1, -1, 10**30, 0.5, True, False, object(), int, Equal())
        self.check(False, "", "read", "write", "read0", b"read")
        self.check(False, [], ["read", 0], ["write", 0, ZEROS], {}, {"read": 0}, {"read", 0})

    def test_a_value_that_is_asked_about_stays(self):
        values = [1, 2, 3, 4]
        value = ["write", 0, values]
        is_request(value)
        is_request(tuple(value))
        self.assertEqual((value, values), (["write", 0, [1, 2, 3, 4]], [1, 2, 3, 4]))


class Tables(unittest.TestCase):
    def test_first_table(self):
        self.assertEqual(new_table(), (ZEROS,) * 8)

    def test_answers(self):
        table = tuple((block, 1, 2, -3) for block in range(8))
        for block in range(8):
            self.assertEqual(answer_of(table, ("read", block)), ("ok", (block, 1, 2, -3)))
            self.assertEqual(answer_of(table, ("write", block, (9, 9, 9, 9))), ("ok", None))
            self.assertEqual(answer_of(new_table(), ("read", block)), ("ok", ZEROS))

    def test_table_behind_a_read(self):
        table = tuple((block, 1, 2, -3) for block in range(8))
        for block in range(8):
            self.assertEqual(after_request(table, ("read", block)), table)

    def test_table_behind_a_write(self):
        for block in range(8):
            table = tuple((other, 1, 2, -3) for other in range(8))
            behind = after_request(table, ("write", block, (9, 8, 7, 10**30)))
            self.assertIs(type(behind), tuple)
            told = [(9, 8, 7, 10**30) if other == block else (other, 1, 2, -3) for other in range(8)]
            self.assertEqual(list(behind), told)
            self.assertEqual(table, tuple((other, 1, 2, -3) for other in range(8)))

    def test_tables_stay(self):
        tables = [new_table()]
        for n in range(20):
            answer_of(tables[-1], ("write", n % 8, (n, n, n, n)))
            tables.append(after_request(tables[-1], ("write", n % 8, (n, n, n, n))))
        for many, table in enumerate(tables):
            told = [ZEROS] * 8
            for n in range(many):
                told[n % 8] = (n, n, n, n)
            self.assertEqual(table, tuple(told))
        self.assertEqual(new_table(), (ZEROS,) * 8)

    def test_read_answers_the_last_write(self):
        table = after_request(new_table(), ("write", 3, (1, 2, 3, 4)))
        table = after_request(table, ("write", 4, (5, 6, 7, 8)))
        table = after_request(table, ("write", 3, (-1, -2, -3, -4)))
        self.assertEqual(answer_of(table, ("read", 3)), ("ok", (-1, -2, -3, -4)))
        self.assertEqual(answer_of(table, ("read", 4)), ("ok", (5, 6, 7, 8)))
        self.assertEqual(answer_of(table, ("read", 2)), ("ok", ZEROS))


if __name__ == "__main__":
    unittest.main()
