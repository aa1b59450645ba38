import unittest
from random import Random

from tests.drawn import SHAPES, drawn_land
from tests.lines import ask, fits, land, last, must, need, number, told
from tests.plain import all_sets, does_fit, fitting_sets, must_cells


class NumberTest(unittest.TestCase):
    def both(self, *calls):
        return [last(*calls, number(one))[0] for one in (0, 1)]

    def test_without_needs_every_set_fits(self):
        for w, h in SHAPES:
            with self.subTest(w=w, h=h):
                self.assertEqual(last(land(w, h, [1] * (w * h), [0] * (w * h)), number(0)), [2 ** (w * h)])

    def test_without_needs_in_one_piece(self):
        # The empty set counts, and each single cell; of 2 by 2 only the two pairs of corners don't.
        self.assertEqual(self.both(land(1, 1, [5], [0])), [2, 2])
        self.assertEqual(self.both(land(2, 1, [5] * 2, [0] * 2)), [4, 4])
        self.assertEqual(self.both(land(3, 1, [5] * 3, [0] * 3)), [8, 7])
        self.assertEqual(self.both(land(2, 2, [5] * 4, [0] * 4)), [16, 14])
        self.assertEqual(self.both(land(3, 3, [5] * 9, [0] * 9)), [512, 219])

    def test_one_row_and_one_column_of_12_cells(self):
        # 78 stretches and the empty set.
        for w, h in ((12, 1), (1, 12)):
            self.assertEqual(self.both(land(w, h, [0] * 12, [255] * 12)), [4096, 79])
            self.assertEqual(self.both(land(w, h, [1000] * 12, [255] * 12), need([11] + [0] * 7)), [13, 3])
            self.assertEqual(self.both(land(w, h, [1000] * 12, [255] * 12), need([12] * 8)), [1, 1])

    def test_three_rows_of_four_and_four_of_three(self):
        self.assertEqual(self.both(land(4, 3, [0] * 12, [0] * 12)), [4096, 1127])
        self.assertEqual(self.both(land(3, 4, [0] * 12, [0] * 12)), [4096, 1127])

    def test_with_needs(self):
        place = land(3, 1, [5, 1, 3], [1, 2, 1])
        self.assertEqual(self.both(place, need([1, 0, 0, 0, 0, 0, 0, 0])), [6, 5])
        self.assertEqual(self.both(place, need([2, 0, 0, 0, 0, 0, 0, 0])), [2, 1])
        self.assertEqual(self.both(place, need([1, 1, 0, 0, 0, 0, 0, 0])), [3, 3])
        self.assertEqual(self.both(place, need([0, 1, 0, 0, 0, 0, 0, 0])), [4, 4])

    def test_no_set_fits(self):
        self.assertEqual(self.both(land(2, 1, [1, 1], [255, 127]), need([0] * 7 + [2])), [0, 0])
        self.assertEqual(self.both(land(4, 3, [1] * 12, [254] * 12), need([1] + [0] * 7)), [0, 0])

    def test_needs_told_anew_and_another_land(self):
        self.assertEqual(
            ask(land(2, 1, [6, 5], [1, 1]), number(0), need([1] + [0] * 7), number(0), need([2] + [0] * 7), number(0),
                land(3, 1, [0, 0, 0], [1, 1, 1]), number(0), number(1)),
            [[0], [4], [0], [3], [0], [1], [0], [8], [7]])

    def test_against_all_sets(self):
        draw = Random(11)
        for w, h in SHAPES:
            for each in range(2 if w * h > 9 else 6):
                prices, kinds, needs = drawn_land(draw, w, h)
                found = ask(land(w, h, prices, kinds), need(needs), number(0), number(1))[2:]
                with self.subTest(w=w, h=h, kinds=kinds, needs=needs):
                    self.assertEqual(found, [[len(fitting_sets(w, kinds, needs, one))] for one in (0, 1)])


class MustTest(unittest.TestCase):
    def test_ordinary(self):
        place = land(3, 1, [5, 1, 3], [1, 2, 1])
        self.assertEqual(last(place, need([1, 0, 0, 0, 0, 0, 0, 0]), must()), [0])
        self.assertEqual(last(place, need([0, 1, 0, 0, 0, 0, 0, 0]), must()), [0, 1])
        self.assertEqual(last(place, need([2, 0, 0, 0, 0, 0, 0, 0]), must()), [0, 0, 2])
        self.assertEqual(last(place, need([2, 1, 0, 0, 0, 0, 0, 0]), must()), [0, 0, 1, 2])

    def test_without_needs_nothing_must_be_bought(self):
        for w, h in ((1, 1), (4, 3), (12, 1), (1, 12)):
            self.assertEqual(last(land(w, h, [0] * (w * h), [255] * (w * h)), must()), [0])

    def test_with_needs_and_nothing_must_be_bought(self):
        for w, h in ((12, 1), (1, 12), (3, 4)):
            self.assertEqual(last(land(w, h, [1000] * 12, [255] * 12), need([11] * 8), must()), [0])

    def test_everything_must_be_bought(self):
        for w, h in ((12, 1), (1, 12), (3, 4)):
            self.assertEqual(last(land(w, h, [0] * 12, [128] * 12), need([0] * 7 + [12]), must()),
                             [0] + list(range(12)))

    def test_no_set_fits(self):
        place = land(2, 1, [1, 1], [255, 127])
        for needs in ([3, 0, 0, 0, 0, 0, 0, 0], [0, 0, 0, 0, 0, 0, 0, 2], [12] * 8):
            self.assertEqual(ask(place, need(needs), must(), told())[2:], [[-6], [0, 2, 1, 1, 1, 255, 127] + needs])

    def test_a_set_need_not_be_in_one_piece(self):
        # Between its ends the row is not needed, though each set in one piece has it.
        place = land(12, 1, [1] * 12, [1] + [0] * 10 + [1])
        self.assertEqual(last(place, need([2] + [0] * 7), must()), [0, 0, 11])

    def test_a_cell_that_one_kind_needs_is_enough(self):
        place = land(2, 2, [0, 0, 0, 0], [3, 1, 1, 5])
        self.assertEqual(last(place, need([2, 1, 0, 0, 0, 0, 0, 0]), must()), [0, 0])
        self.assertEqual(last(place, need([2, 1, 1, 0, 0, 0, 0, 0]), must()), [0, 0, 3])

    def test_needs_told_anew_and_another_land(self):
        place = land(2, 1, [6, 5], [1, 1])
        self.assertEqual(
            ask(place, need([2] + [0] * 7), must(), need([1] + [0] * 7), must(), need([3] + [0] * 7), must(),
                place, must()),
            [[0], [0], [0, 0, 1], [0], [0], [0], [-6], [0], [0]])


class Promise4Test(unittest.TestCase):
    def test_against_all_sets(self):
        draw = Random(12)
        for w, h in SHAPES:
            for each in range(3 if w * h > 9 else 12):
                prices, kinds, needs = drawn_land(draw, w, h)
                expected = must_cells(w, kinds, needs)
                with self.subTest(w=w, h=h, kinds=kinds, needs=needs):
                    self.assertEqual(last(land(w, h, prices, kinds), need(needs), must()),
                                     [-6] if expected is None else [0] + expected)

    def test_a_cell_must_be_bought_just_if_all_others_do_not_fit(self):
        draw = Random(13)
        for w, h in SHAPES:
            for each in range(12):
                prices, kinds, needs = drawn_land(draw, w, h)
                cells = list(range(w * h))
                others = [[other for other in cells if other != cell] for cell in cells]
                found = ask(land(w, h, prices, kinds), need(needs), must(), fits(cells), *map(fits, others))[2:]
                with self.subTest(w=w, h=h, kinds=kinds, needs=needs):
                    if found[1] == [0]:
                        self.assertEqual(found[0], [-6])
                    else:
                        self.assertEqual(found[0], [0] + [cell for cell in cells if found[2 + cell] == [0]])

    def test_every_set_that_fits_has_them(self):
        draw = Random(14)
        for each in range(40):
            prices, kinds, needs = drawn_land(draw, 4, 2)
            answer = last(land(4, 2, prices, kinds), need(needs), must())
            for cells in all_sets(8):
                if does_fit(kinds, needs, cells):
                    self.assertLessEqual(set(answer[1:]), set(cells))


if __name__ == "__main__":
    unittest.main()
