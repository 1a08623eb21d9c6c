"""Rows of moves and numbered moves, promises 12 and 13."""

import unittest

from halvewright.errors import NoRow
from halvewright.maps import back, high, then
from halvewright.rows import map_of_row, move, numbered, row_of_number
from halvewright.trees import read_tree
from samples import (
    MOVES, ONE, PAIR, corners, is_map, is_number, led, moved, needless_places, right_chain, some_rows, way_back,
)


class RowCase(unittest.TestCase):
    def check_told(self, mapped):
        self.assertTrue(is_map(mapped))
        self.assertEqual(needless_places(mapped), [])


class TestMove(RowCase):
    def test_four_letters(self):
        for letter, mapped in MOVES.items():
            self.assertEqual(move(letter), mapped)
            self.check_told(move(letter))

    def test_as_the_document_tells_them(self):
        self.assertEqual(move("a"), (read_tree("((..).)"), read_tree("(.(..))")))
        self.assertEqual(move("b"), high(move("a")))
        self.assertEqual(move("A"), back(move("a")))
        self.assertEqual(move("B"), back(move("b")))


class TestRows(RowCase):
    def check(self, row):
        mapped = map_of_row(row)
        self.check_told(mapped)
        for number in corners(mapped):
            goal = number
            for letter in row:
                goal = led(MOVES[letter], goal)
            self.assertEqual(led(mapped, number), goal)

    def test_the_text_without_signs(self):
        self.assertEqual(map_of_row(""), ONE)

    def test_single_letters(self):
        for letter, mapped in MOVES.items():
            self.assertEqual(map_of_row(letter), mapped)

    def test_all_short_rows(self):
        rows = [""]
        for _ in range(4):
            rows = rows + [row + letter for row in rows for letter in "abAB"]
        for row in sorted(set(rows)):
            self.check(row)

    def test_from_the_left(self):
        self.assertEqual(map_of_row("ab"), (read_tree("((.(..)).)"), read_tree("(.(.(..)))")))
        self.assertEqual(map_of_row("ba"), (read_tree("((..)((..).))"), read_tree("(.(.(.(..))))")))

    def test_rows_of_60_letters(self):
        for row in some_rows(111, 8, 60, 60) + ["a" * 60, "B" * 60, "aB" * 30, "Ab" * 30, "abAB" * 15]:
            self.check(row)

    def test_ordinary_rows(self):
        for row in some_rows(112, 30, 5, 20):
            self.check(row)

    def test_one_row_behind_another(self):
        rows = some_rows(113, 30, 0, 30)
        for row, other in zip(rows, rows[1:]):
            self.assertEqual(map_of_row(row + other), then(map_of_row(row), map_of_row(other)))

    def test_way_back(self):
        for row in some_rows(114, 30, 0, 30):
            self.assertEqual(map_of_row(row + way_back(row)), ONE)
            self.assertEqual(map_of_row(way_back(row) + row), ONE)
            self.assertEqual(map_of_row(way_back(row)), back(map_of_row(row)))

    def test_rows_of_the_one(self):
        # The two rows by which all others of the one come.
        first, second, third = "aB", "Aba", "AAbaa"
        for other in (second, third):
            self.assertEqual(map_of_row(first + other + way_back(first) + way_back(other)), ONE)


class TestNoRow(unittest.TestCase):
    def refused(self, text):
        with self.assertRaises(NoRow) as caught:
            map_of_row(text)
        self.assertTrue(is_number(caught.exception.at))
        return caught.exception.at

    def test_by_hand(self):
        wanted = {
            "c": 0, " ": 0, " a": 0, "a ": 1, "a b": 1, "ab\n": 2, "abC": 2, "0": 0, "a-": 1,
            "abABx": 4, "abABxabABy": 4, "xy": 0, "a~": 1,
        }
        for text, at in wanted.items():
            self.assertEqual(self.refused(text), at, text)

    def test_each_other_sign_at_each_place(self):
        others = [chr(code) for code in range(32, 127) if chr(code) not in "abAB" and code != 37]
        for row in some_rows(115, 3, 10, 10) + [""]:
            for at in range(len(row) + 1):
                for sign in others + ["\n"]:
                    self.assertEqual(self.refused(row[:at] + sign + row[at:] + sign), at)

    def test_behind_60_letters(self):
        self.assertEqual(self.refused("aB" * 30 + "c"), 60)


class TestNumbered(RowCase):
    def test_first_ones(self):
        self.assertEqual(numbered(0), move("a"))
        self.assertEqual(numbered(1), move("b"))

    def test_each_is_the_high_one_of_the_one_ahead(self):
        for n in range(31):
            self.check_told(numbered(n))
            self.assertEqual(numbered(n + 1), high(numbered(n)))

    def test_trees(self):
        for n in range(31):
            self.assertEqual(numbered(n), (right_chain(n, (PAIR, ())), right_chain(n, ((), PAIR))))

    def test_point_by_point(self):
        for n in range(31):
            for number in corners(numbered(n)):
                self.assertEqual(led(numbered(n), number), moved(n, number))

    def test_rows(self):
        for n in range(31):
            row = row_of_number(n)
            self.assertIs(type(row), str)
            self.assertLessEqual(len(row), 2 * n + 1)
            self.assertEqual(map_of_row(row), numbered(n))

    def test_between_a_lesser_one_and_its_back(self):
        for n in range(1, 31):
            for k in range(0, n, 5):
                whole = then(then(back(numbered(k)), numbered(n)), numbered(k))
                self.assertEqual(whole, numbered(n + 1))


class TestSteadiness(unittest.TestCase):
    def test_same_answers_behind_others(self):
        rows = some_rows(116, 20, 0, 30)
        first = [map_of_row(row) for row in rows]
        numbers = [(numbered(n), row_of_number(n)) for n in range(31)]
        for text in ("c", "abx"):
            with self.assertRaises(NoRow):
                map_of_row(text)
        self.assertEqual([map_of_row(row) for row in reversed(rows)], first[::-1])
        self.assertEqual([(numbered(n), row_of_number(n)) for n in reversed(range(31))], numbers[::-1])


if __name__ == "__main__":
    unittest.main()
