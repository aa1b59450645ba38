import unittest

from tests.lines import ask, best, fits, land, last, need, told

SHAPES = [(w, h) for w in range(1, 13) for h in range(1, 13) if w * h <= 12]
NO_NEEDS = [0] * 8


class LandTest(unittest.TestCase):
    def test_land_is_held(self):
        self.assertEqual(
            ask(land(3, 2, [5, 0, 7, 1000, 2, 1], [1, 2, 255, 0, 128, 7]), told()),
            [[0], [0, 3, 2, 5, 0, 7, 1000, 2, 1, 1, 2, 255, 0, 128, 7, 0, 0, 0, 0, 0, 0, 0, 0]])

    def test_every_shape_of_at_most_12_cells(self):
        for w, h in SHAPES:
            prices = [100 * cell % 1001 for cell in range(w * h)]
            kinds = [255 - cell for cell in range(w * h)]
            with self.subTest(w=w, h=h):
                self.assertEqual(ask(land(w, h, prices, kinds), told()),
                                 [[0], [0, w, h] + prices + kinds + NO_NEEDS])

    def test_edges_of_prices_and_kinds(self):
        for w, h in ((12, 1), (1, 12)):
            for worth in (0, 1000):
                for held in (0, 255):
                    with self.subTest(w=w, worth=worth, held=held):
                        self.assertEqual(ask(land(w, h, [worth] * 12, [held] * 12), told()),
                                         [[0], [0, w, h] + [worth] * 12 + [held] * 12 + NO_NEEDS])

    def test_another_land_takes_the_place_of_the_first(self):
        self.assertEqual(
            ask(land(2, 2, [1, 2, 3, 4], [1, 1, 1, 1]), need([4, 0, 0, 0, 0, 0, 0, 0]), told(),
                land(1, 1, [9], [0]), told(), fits([]), best(0)),
            [[0], [0], [0, 2, 2, 1, 2, 3, 4, 1, 1, 1, 1, 4, 0, 0, 0, 0, 0, 0, 0],
             [0], [0, 1, 1, 9, 0] + NO_NEEDS, [1], [0]])

    def test_the_same_land_again_sets_the_needs_to_0(self):
        same = land(2, 1, [3, 4], [1, 2])
        self.assertEqual(last(same, need([1, 1, 0, 0, 0, 0, 0, 12]), same, told()),
                         [0, 2, 1, 3, 4, 1, 2] + NO_NEEDS)


class NeedTest(unittest.TestCase):
    def test_needs_are_held(self):
        needs = [0, 12, 1, 11, 2, 10, 3, 9]
        self.assertEqual(ask(land(1, 1, [5], [6]), need(needs), told()), [[0], [0], [0, 1, 1, 5, 6] + needs])

    def test_edges(self):
        for worth in (0, 12):
            with self.subTest(worth=worth):
                self.assertEqual(last(land(1, 1, [5], [6]), need([worth] * 8), told()),
                                 [0, 1, 1, 5, 6] + [worth] * 8)

    def test_told_anew_only_the_last_needs_hold(self):
        first = [1, 2, 3, 4, 5, 6, 7, 8]
        second = [8, 0, 0, 0, 0, 0, 0, 1]
        self.assertEqual(
            ask(land(1, 2, [5, 4], [6, 1]), need(first), told(), need(second), told(), need(NO_NEEDS), fits([])),
            [[0], [0], [0, 1, 2, 5, 4, 6, 1] + first, [0], [0, 1, 2, 5, 4, 6, 1] + second, [0], [1]])

    def test_told_again_answers_the_same(self):
        answered = ask(land(1, 2, [5, 4], [6, 1]), told(), told())
        self.assertEqual(answered[1], answered[2])


if __name__ == "__main__":
    unittest.main()
