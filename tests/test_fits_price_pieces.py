import unittest

from tests.lines import ask, fits, land, last, need, pieces, price

# Twelve cells, three rows of four:
#   0  1  2  3
#   4  5  6  7
#   8  9 10 11
WIDE = land(4, 3, [1, 2, 4, 8, 16, 32, 64, 128, 256, 512, 1000, 0], [1, 3, 0, 4, 0, 1, 128, 0, 255, 0, 0, 2])
ROW = land(12, 1, [1] * 12, [1] * 12)
COLUMN = land(1, 12, [1] * 12, [1] * 12)


def needs_of(**often):
    return [often.get(f"k{kind}", 0) for kind in range(8)]


class FitsTest(unittest.TestCase):
    def check(self, needs, cells, expected):
        self.assertEqual(last(WIDE, need(needs), fits(cells)), [expected])

    def test_without_needs_every_set_fits(self):
        for cells in ([], [0], [2, 7], list(range(12))):
            self.assertEqual(last(WIDE, fits(cells)), [1])

    def test_just_as_often_as_needed(self):
        self.check(needs_of(k0=2), [0, 1], 1)
        self.check(needs_of(k0=2), [0, 1, 5], 1)
        self.check(needs_of(k0=2), [0, 2], 0)
        self.check(needs_of(k0=3), [0, 1], 0)

    def test_each_kind_by_itself(self):
        for kind in range(8):
            needs = [0] * 8
            needs[kind] = 1
            for held in range(8):
                with self.subTest(kind=kind, held=held):
                    self.assertEqual(last(land(1, 1, [1], [2 ** held]), need(needs), fits([0])),
                                     [1 if held == kind else 0])

    def test_every_needed_kind_has_to_be_there(self):
        self.check(needs_of(k0=1, k1=1), [1], 1)
        self.check(needs_of(k0=1, k7=1), [1], 0)
        self.check(needs_of(k0=1, k7=1), [1, 6], 1)

    def test_the_empty_set(self):
        self.check([0] * 8, [], 1)
        self.check(needs_of(k7=1), [], 0)

    def test_a_cell_told_twice_counts_once(self):
        self.check(needs_of(k0=2), [0, 0], 0)
        self.check(needs_of(k0=2), [0] * 24, 0)
        self.check(needs_of(k0=2), [5, 0, 5, 0], 1)

    def test_a_need_of_12(self):
        everything = list(range(12))
        self.assertEqual(last(ROW, need([12] + [0] * 7), fits(everything)), [1])
        self.assertEqual(last(ROW, need([12] + [0] * 7), fits(everything[1:])), [0])
        full = land(3, 4, [0] * 12, [255] * 12)
        self.assertEqual(last(full, need([12] * 8), fits(everything + everything)), [1])
        self.assertEqual(last(full, need([12] * 8), fits(everything[:11] + everything[:11])), [0])


class PriceTest(unittest.TestCase):
    def check(self, cells, expected):
        self.assertEqual(last(WIDE, price(cells)), [expected])

    def test_ordinary(self):
        self.check([0], 1)
        self.check([3, 10, 4], 1024)
        self.check(list(range(12)), 2023)

    def test_the_empty_set_and_a_free_cell(self):
        self.check([], 0)
        self.check([11], 0)

    def test_a_cell_told_twice_is_paid_once(self):
        self.check([10, 10], 1000)
        self.check([11, 3, 11, 3, 0] * 4 + [0, 3, 11, 3], 9)

    def test_the_dearest_land(self):
        dear = land(2, 6, [1000] * 12, [0] * 12)
        self.assertEqual(last(dear, price(list(range(12)) * 2)), [12000])

    def test_needs_have_no_say(self):
        self.assertEqual(last(WIDE, need([12] * 8), price([1, 2])), [6])


class PiecesTest(unittest.TestCase):
    def check(self, place, cells, expected):
        with self.subTest(cells=cells):
            self.assertEqual(last(place, pieces(cells)), [expected])

    def test_the_empty_set_has_none(self):
        self.check(WIDE, [], 0)

    def test_single_cells(self):
        for cell in range(12):
            for place in (WIDE, ROW, COLUMN):
                self.check(place, [cell], 1)

    def test_side_by_side_and_one_below_the_other(self):
        self.check(WIDE, [0, 1], 1)
        self.check(WIDE, [2, 6], 1)
        self.check(WIDE, [11, 7], 1)

    def test_a_corner_is_no_neighbour(self):
        self.check(WIDE, [0, 5], 2)
        self.check(WIDE, [1, 4], 2)

    def test_a_row_s_end_is_no_neighbour_of_the_next_row_s_beginning(self):
        self.check(WIDE, [3, 4], 2)
        self.check(WIDE, [7, 8], 2)

    def test_several_parts(self):
        self.check(WIDE, [0, 2, 8, 10, 5, 7], 6)
        self.check(WIDE, [0, 1, 3, 7, 9], 3)
        self.check(WIDE, [0, 1, 2, 3, 8, 9, 10, 11], 2)
        self.check(ROW, [0, 2, 4, 6, 8, 10], 6)
        self.check(COLUMN, [0, 2, 3, 5, 6, 7, 11], 4)

    def test_parts_that_are_joined_late(self):
        self.check(WIDE, [0, 4, 8, 9, 10, 11, 7, 3], 1)
        self.check(WIDE, [0, 4, 8, 10, 11, 7, 3], 2)
        self.check(land(3, 4, [0] * 12, [0] * 12), [2, 1, 0, 3, 6, 9, 10, 11, 8], 1)

    def test_the_whole_land(self):
        for w, h in ((1, 1), (4, 3), (3, 4), (6, 2), (2, 6), (12, 1), (1, 12), (3, 3), (5, 2)):
            self.check(land(w, h, [0] * (w * h), [0] * (w * h)), list(range(w * h)), 1)

    def test_any_order_and_some_twice(self):
        self.check(WIDE, [9, 0, 9, 3, 1, 0, 7, 7], 3)
        self.check(ROW, [11, 0] * 12, 2)


class SeveralCallsTest(unittest.TestCase):
    def test_answers_stand_in_the_order_of_the_calls(self):
        self.assertEqual(
            ask(WIDE, price([0, 1]), pieces([0, 5]), need([1, 0, 0, 0, 0, 0, 0, 0]), fits([2]), fits([0]), price([])),
            [[0], [3], [2], [0], [0], [1], [0]])


if __name__ == "__main__":
    unittest.main()
