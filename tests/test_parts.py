"""[20]: all texts up to alikeness, each once, in their plainest form."""

import unittest

from tests import plainly
from textbehind.parts import texts_having
from textbehind.texts import plain

PARTS = [1, 1, 2, 5, 15, 52, 203, 877]
ORDERS = [1, 1, 3, 13, 75, 541]


class PartsTest(unittest.TestCase):
    def test_their_numbers(self):
        self.assertEqual([len(texts_having(size, [], False)) for size in range(8)], PARTS)
        self.assertEqual([len(texts_having(size, [], True)) for size in range(6)], ORDERS)

    def test_each_is_plain_and_stands_once(self):
        for ordered, manner in ((False, "names"), (True, "order")):
            for size in range(6):
                rows = texts_having(size, [], ordered)
                self.assertEqual([plain(row, manner) for row in rows], rows)
                self.assertEqual(len({tuple(row) for row in rows}), len(rows))

    def test_each_text_is_alike_to_one_of_them(self):
        for ordered, manner in ((False, "names"), (True, "order")):
            for size in range(6):
                rows = {tuple(row) for row in texts_having(size, [], ordered)}
                self.assertEqual({tuple(plain(text, manner)) for text in plainly.texts(size)}, rows)


if __name__ == "__main__":
    unittest.main()
