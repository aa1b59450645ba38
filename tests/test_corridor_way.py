import unittest
from random import Random

from tests.drawn import SHAPES, drawn_land
from tests.lines import ask, corridor, land, last, need, pieces, price, way
from tests.plain import corridor_set, price_of, way_price

ROW = land(12, 1, [1, 2, 4, 8, 16, 32, 64, 128, 256, 512, 1000, 0], [0] * 12)
COLUMN = land(1, 12, [1, 2, 4, 8, 16, 32, 64, 128, 256, 512, 1000, 0], [0] * 12)

# Dear in the middle, and on the right but for the corners:
#   1    1    1
#   1 1000 1000
#   1    1    1
ROUND = land(3, 3, [1, 1, 1, 1, 1000, 1000, 1, 1, 1], [0] * 9)


class CorridorTest(unittest.TestCase):
    def test_the_empty_set(self):
        for w, h in ((1, 1), (12, 1), (1, 12), (4, 3)):
            for worth in (0, 1000):
                self.assertEqual(last(land(w, h, [worth] * (w * h), [255] * (w * h)), corridor([])), [0])

    def test_a_single_cell(self):
        for cell, worth in enumerate([1, 2, 4, 8, 16, 32, 64, 128, 256, 512, 1000, 0]):
            for place in (ROW, COLUMN):
                self.assertEqual(last(place, corridor([cell])), [worth, cell])

    def test_along_a_row_and_a_column(self):
        for place in (ROW, COLUMN):
            self.assertEqual(last(place, corridor([0, 3])), [15, 0, 1, 2, 3])
            self.assertEqual(last(place, corridor([11, 9])), [1512, 9, 10, 11])
            self.assertEqual(last(place, corridor([11, 0])), [2023] + list(range(12)))
            self.assertEqual(last(place, corridor([4, 6, 5])), [112, 4, 5, 6])

    def test_round_dear_cells(self):
        self.assertEqual(last(ROUND, corridor([2, 8])), [7, 0, 1, 2, 3, 6, 7, 8])
        self.assertEqual(last(ROUND, corridor([2, 5])), [1001, 2, 5])
        self.assertEqual(last(ROUND, corridor([4])), [1000, 4])

    def test_more_than_two_cells(self):
        self.assertEqual(last(ROUND, corridor([0, 2, 6])), [5, 0, 1, 2, 3, 6])
        place = land(3, 3, [9, 1, 9, 1, 1, 1, 9, 1, 9], [0] * 9)
        self.assertEqual(last(place, corridor([1, 3, 5, 7])), [5, 1, 3, 4, 5, 7])

    def test_of_one_least_price_the_first_in_order(self):
        for worth in (0, 1, 1000):
            self.assertEqual(last(land(2, 2, [worth] * 4, [0] * 4), corridor([0, 3])), [3 * worth, 0, 1, 3])
            self.assertEqual(last(land(2, 2, [worth] * 4, [0] * 4), corridor([2, 1])), [3 * worth, 0, 1, 2])
        # {0, 1, 2, 3, 5} has the number 47, {3, 4, 5} the number 56: the lesser is first, though it has more cells.
        self.assertEqual(last(land(3, 2, [1, 1, 1, 2, 3, 2], [0] * 6), corridor([3, 5])), [7, 0, 1, 2, 3, 5])
        self.assertEqual(last(land(3, 2, [1, 1, 2, 2, 3, 2], [0] * 6), corridor([3, 5])), [7, 3, 4, 5])

    def test_where_all_is_free(self):
        free = land(4, 3, [0] * 12, [0] * 12)
        self.assertEqual(last(free, corridor([7])), [0, 7])
        self.assertEqual(last(free, corridor([0, 2])), [0, 0, 1, 2])
        # Through the cells 1, 2, 3 it is longer than through the cell 10, but earlier in order.
        self.assertEqual(last(free, corridor([9, 11])), [0, 1, 2, 3, 5, 7, 9, 11])

    def test_any_order_up_to_24_and_some_twice(self):
        self.assertEqual(last(ROUND, corridor([8, 2, 8, 2])), [7, 0, 1, 2, 3, 6, 7, 8])
        self.assertEqual(last(ROW, corridor([2, 0] * 12)), [7, 0, 1, 2])
        self.assertEqual(last(ROW, corridor(list(range(12)) * 2)), [2023] + list(range(12)))

    def test_needs_have_no_say(self):
        self.assertEqual(ask(ROUND, need([12] * 8), corridor([2, 8]), corridor([]))[2:],
                         [[7, 0, 1, 2, 3, 6, 7, 8], [0]])

    def test_another_land(self):
        self.assertEqual(ask(ROW, corridor([0, 2]), land(2, 2, [1, 9, 2, 3], [0] * 4), corridor([0, 3])),
                         [[0], [7, 0, 1, 2], [0], [6, 0, 2, 3]])

    def test_against_all_sets(self):
        draw = Random(21)
        for w, h in SHAPES:
            for each in range(2):
                prices, kinds, needs = drawn_land(draw, w, h)
                sets = [draw.sample(range(w * h), min(many, w * h)) for many in (0, 1, 2, 2, 3, 4, 6)]
                found = ask(land(w, h, prices, kinds), *map(corridor, sets))[1:]
                expected = [corridor_set(w, prices, cells) for cells in sets]
                with self.subTest(w=w, h=h, prices=prices, sets=sets):
                    self.assertEqual(found, [[price_of(prices, cells), *cells] for cells in expected])

    def test_it_agrees_with_the_calls_for_sets(self):
        draw = Random(22)
        for w, h in SHAPES:
            for each in range(5):
                prices, kinds, needs = drawn_land(draw, w, h)
                cells = draw.sample(range(w * h), draw.randint(1, w * h))
                answer = last(land(w, h, prices, kinds), corridor(cells))
                self.assertEqual(ask(land(w, h, prices, kinds), price(answer[1:]), pieces(answer[1:]))[1:],
                                 [[answer[0]], [1]])
                self.assertLessEqual(set(cells), set(answer[1:]))


class WayTest(unittest.TestCase):
    def test_from_a_cell_to_itself(self):
        for cell, worth in enumerate([1, 2, 4, 8, 16, 32, 64, 128, 256, 512, 1000, 0]):
            for place in (ROW, COLUMN):
                self.assertEqual(last(place, way(cell, cell)), [worth])
        self.assertEqual(last(land(1, 1, [1000], [0]), way(0, 0)), [1000])
        self.assertEqual(last(land(1, 1, [0], [0]), way(0, 0)), [0])

    def test_along_a_row_and_a_column(self):
        for place in (ROW, COLUMN):
            self.assertEqual(last(place, way(0, 3)), [15])
            self.assertEqual(last(place, way(3, 0)), [15])
            self.assertEqual(last(place, way(0, 11)), [2023])
            self.assertEqual(last(place, way(11, 0)), [2023])
            self.assertEqual(last(place, way(10, 11)), [1000])

    def test_round_dear_cells(self):
        self.assertEqual(last(ROUND, way(2, 8)), [7])
        self.assertEqual(last(ROUND, way(8, 2)), [7])
        self.assertEqual(last(ROUND, way(2, 5)), [1001])
        self.assertEqual(last(ROUND, way(5, 3)), [1004])
        self.assertEqual(last(ROUND, way(4, 5)), [2000])

    def test_the_longest_way_round(self):
        # Only along the edge of the land and back through its middle it is cheap.
        place = land(4, 3, [1, 1, 1, 1, 1000, 1000, 1000, 1, 1, 1, 1, 1], [0] * 12)
        self.assertEqual(ask(place, way(0, 8), way(8, 0))[1:], [[9], [9]])
        place = land(3, 4, [1, 1, 1, 1000, 1000, 1, 1, 1, 1, 1, 1000, 1000], [0] * 12)
        self.assertEqual(ask(place, way(0, 9), way(9, 0))[1:], [[8], [8]])

    def test_straight_through_where_round_is_dearer(self):
        place = land(3, 2, [4, 4, 4, 1, 11, 1], [0] * 6)
        self.assertEqual(last(place, way(3, 5)), [13])
        place = land(3, 2, [4, 4, 4, 1, 13, 1], [0] * 6)
        self.assertEqual(last(place, way(3, 5)), [14])

    def test_a_corner_is_no_step_and_a_row_s_end_neither(self):
        self.assertEqual(last(land(2, 2, [1, 5, 6, 1], [0] * 4), way(0, 3)), [7])
        self.assertEqual(last(land(3, 2, [9, 9, 1, 1, 9, 9], [0] * 6), way(2, 3)), [20])

    def test_free_and_dearest_lands(self):
        for w, h in ((12, 1), (1, 12)):
            self.assertEqual(last(land(w, h, [0] * 12, [0] * 12), way(0, 11)), [0])
            self.assertEqual(last(land(w, h, [1000] * 12, [0] * 12), way(0, 11)), [12000])
        self.assertEqual(last(land(4, 3, [1000] * 12, [0] * 12), way(3, 8)), [6000])

    def test_needs_have_no_say(self):
        self.assertEqual(last(ROUND, need([12] * 8), way(2, 8)), [7])

    def test_another_land(self):
        self.assertEqual(ask(ROW, way(0, 2), land(2, 2, [1, 9, 2, 3], [0] * 4), way(0, 2), way(0, 3)),
                         [[0], [7], [0], [3], [6]])

    def test_against_all_rows_of_cells(self):
        draw = Random(23)
        for w, h in SHAPES:
            prices, kinds, needs = drawn_land(draw, w, h)
            pairs = [(a, b) for a in range(w * h) for b in range(w * h)]
            found = ask(land(w, h, prices, kinds), *[way(a, b) for a, b in pairs])[1:]
            with self.subTest(w=w, h=h, prices=prices):
                self.assertEqual(found, [[way_price(w, prices, a, b)] for a, b in pairs])


class Promise3Test(unittest.TestCase):
    def test_a_way_costs_what_the_cheapest_corridor_costs(self):
        draw = Random(24)
        for w, h in SHAPES:
            for each in range(3):
                prices, kinds, needs = drawn_land(draw, w, h)
                pairs = [(a, b) for a in range(w * h) for b in range(w * h)]
                ways = ask(land(w, h, prices, kinds), *[way(a, b) for a, b in pairs])[1:]
                corridors = ask(land(w, h, prices, kinds), *[corridor([a, b]) for a, b in pairs])[1:]
                with self.subTest(w=w, h=h, prices=prices):
                    self.assertEqual(ways, [answer[:1] for answer in corridors])

    def test_against_all_sets(self):
        draw = Random(25)
        for w, h in ((3, 3), (4, 2), (2, 5), (4, 3)):
            for each in range(4):
                prices, kinds, needs = drawn_land(draw, w, h)
                for pair in range(3):
                    a = draw.randrange(w * h)
                    b = draw.randrange(w * h)
                    self.assertEqual(last(land(w, h, prices, kinds), way(a, b)),
                                     [price_of(prices, corridor_set(w, prices, [a, b]))])


if __name__ == "__main__":
    unittest.main()
