import unittest
from random import Random

from tests.drawn import SHAPES, drawn_land
from tests.lines import ask, best, fits, land, last, need, pieces, price, told
from tests.plain import all_sets, best_set, does_fit, pieces_of, price_of


class BestTest(unittest.TestCase):
    def test_without_needs_it_is_the_empty_set(self):
        place = land(2, 2, [0, 1, 0, 1000], [1, 2, 3, 4])
        self.assertEqual(ask(place, best(0), best(1)), [[0], [0], [0]])

    def test_ordinary(self):
        place = land(3, 1, [5, 1, 3], [1, 2, 1])
        self.assertEqual(last(place, need([1, 0, 0, 0, 0, 0, 0, 0]), best(0)), [3, 2])
        self.assertEqual(last(place, need([1, 1, 0, 0, 0, 0, 0, 0]), best(0)), [4, 1, 2])
        self.assertEqual(last(place, need([2, 0, 0, 0, 0, 0, 0, 0]), best(0)), [8, 0, 2])

    def test_in_one_piece_or_not(self):
        place = land(3, 1, [5, 100, 3], [1, 0, 1])
        needs = need([2, 0, 0, 0, 0, 0, 0, 0])
        self.assertEqual(ask(place, needs, best(0), best(1)), [[0], [0], [8, 0, 2], [108, 0, 1, 2]])

    def test_one_piece_may_be_quite_another_set(self):
        place = land(4, 1, [1, 50, 30, 30], [1, 0, 1, 1])
        needs = need([2, 0, 0, 0, 0, 0, 0, 0])
        self.assertEqual(ask(place, needs, best(0), best(1)), [[0], [0], [31, 0, 2], [60, 2, 3]])

    def test_one_piece_bends_round_what_is_dear(self):
        place = land(3, 3, [1, 1, 1, 1, 1000, 1000, 1, 1, 1], [1, 0, 0, 0, 0, 0, 0, 0, 1])
        needs = need([2, 0, 0, 0, 0, 0, 0, 0])
        self.assertEqual(last(place, needs, best(1)), [5, 0, 3, 6, 7, 8])

    def test_of_one_least_price_the_first_in_order(self):
        needs = need([1, 0, 0, 0, 0, 0, 0, 0])
        self.assertEqual(last(land(3, 1, [4, 4, 4], [1, 1, 1]), needs, best(0)), [4, 0])
        self.assertEqual(last(land(3, 1, [4, 4, 4], [0, 1, 1]), needs, best(1)), [4, 1])
        # {2} has the number 4, {0, 1} the number 3: the lesser number is first, though it has more cells.
        place = land(3, 1, [2, 2, 4], [1, 2, 3])
        self.assertEqual(last(place, need([1, 1, 0, 0, 0, 0, 0, 0]), best(0)), [4, 0, 1])

    def test_free_cells_that_are_not_needed_stay_out(self):
        needs = need([1, 0, 0, 0, 0, 0, 0, 0])
        self.assertEqual(last(land(2, 2, [0, 0, 0, 0], [0, 0, 1, 1]), needs, best(0)), [0, 2])
        self.assertEqual(last(land(2, 2, [0, 0, 0, 0], [0, 0, 1, 1]), needs, best(1)), [0, 2])

    def test_a_free_cell_may_come_first_in_order(self):
        # {1} and {0, 1} cost the same; so do {2} and {0, 2}: the least number of all is that of {1}.
        place = land(3, 1, [0, 7, 7], [0, 1, 1])
        self.assertEqual(last(place, need([1, 0, 0, 0, 0, 0, 0, 0]), best(0)), [7, 1])

    def test_no_set_fits(self):
        place = land(2, 1, [1, 1], [255, 127])
        for needs in ([3, 0, 0, 0, 0, 0, 0, 0], [0, 0, 0, 0, 0, 0, 0, 2], [12] * 8):
            with self.subTest(needs=needs):
                self.assertEqual(ask(place, need(needs), best(0), best(1)), [[0], [0], [-6], [-6]])
        self.assertEqual(ask(land(1, 1, [0], [0]), need([0] * 7 + [1]), best(0), best(1)), [[0], [0], [-6], [-6]])

    def test_everything_is_needed(self):
        for w, h in ((12, 1), (1, 12), (4, 3)):
            place = land(w, h, [1000] * 12, [255] * 12)
            everything = [12000] + list(range(12))
            self.assertEqual(ask(place, need([12] * 8), best(0), best(1)), [[0], [0], everything, everything])

    def test_a_whole_row_between_its_ends(self):
        for w, h in ((12, 1), (1, 12)):
            place = land(w, h, [1] * 12, [1] + [0] * 10 + [1])
            self.assertEqual(ask(place, need([2] + [0] * 7), best(0), best(1)),
                             [[0], [0], [2, 0, 11], [12] + list(range(12))])

    def test_needs_told_anew_and_another_land(self):
        place = land(2, 1, [6, 5], [1, 1])
        self.assertEqual(
            ask(place, need([1] + [0] * 7), best(0), need([2] + [0] * 7), best(0), place, best(0)),
            [[0], [0], [5, 1], [0], [11, 0, 1], [0], [0]])

    def test_best_changes_nothing(self):
        place = land(2, 2, [6, 5, 1, 3], [1, 1, 0, 1])
        answered = ask(place, need([2] + [0] * 7), told(), best(0), best(1), told())
        self.assertEqual(answered[2], answered[5])


class Promise1Test(unittest.TestCase):
    def check(self, w, h, prices, kinds, needs, one):
        expected = best_set(w, prices, kinds, needs, one)
        answer = last(land(w, h, prices, kinds), need(needs), best(one))
        if expected is None:
            self.assertEqual(answer, [-6])
        else:
            self.assertEqual(answer, [price_of(prices, expected), *expected])

    def test_best_against_all_sets(self):
        draw = Random(1)
        for w, h in SHAPES:
            for each in range(3 if w * h > 9 else 12):
                prices, kinds, needs = drawn_land(draw, w, h)
                for one in (0, 1):
                    with self.subTest(w=w, h=h, prices=prices, kinds=kinds, needs=needs, one=one):
                        self.check(w, h, prices, kinds, needs, one)

    def test_no_set_that_fits_is_cheaper(self):
        draw = Random(2)
        for w, h in ((3, 2), (2, 4), (3, 3), (7, 1)):
            for each in range(20):
                prices, kinds, needs = drawn_land(draw, w, h)
                for one in (0, 1):
                    answer = last(land(w, h, prices, kinds), need(needs), best(one))
                    for cells in all_sets(w * h):
                        if does_fit(kinds, needs, cells) and (one == 0 or len(pieces_of(w, cells)) <= 1):
                            self.assertGreaterEqual(answer[0], 0)
                            self.assertLessEqual(answer[0], price_of(prices, cells))

    def test_the_best_agrees_with_the_calls_for_sets(self):
        draw = Random(3)
        for w, h in SHAPES:
            for each in range(10):
                prices, kinds, needs = drawn_land(draw, w, h)
                for one in (0, 1):
                    begin = [land(w, h, prices, kinds), need(needs)]
                    answer = last(*begin, best(one))
                    if answer != [-6]:
                        cells = answer[1:]
                        found = ask(*begin, fits(cells), price(cells), pieces(cells))[2:]
                        self.assertEqual(found[:2], [[1], [answer[0]]])
                        self.assertEqual(cells, sorted(set(cells)))
                        if one == 1:
                            self.assertLessEqual(found[2][0], 1)


if __name__ == "__main__":
    unittest.main()
