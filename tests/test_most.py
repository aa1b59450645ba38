import unittest
from random import Random

from tests.drawn import SHAPES, drawn_land
from tests.lines import ask, best, land, last, most, need, pieces, price
from tests.plain import count_kept, most_set


def needs_of(*often):
    return need(list(often) + [0] * (8 - len(often)))


class MostTest(unittest.TestCase):
    def check(self, calls, one, p, expected):
        with self.subTest(calls=calls, one=one, p=p):
            self.assertEqual(last(*calls, most(one, p)), expected)

    def test_without_needs_the_empty_set_keeps_all_kinds(self):
        for w, h in ((1, 1), (12, 1), (1, 12), (4, 3)):
            for one in (0, 1):
                for p in (0, 12000):
                    self.check([land(w, h, [0] * (w * h), [255] * (w * h))], one, p, [8])

    def test_the_sum_that_is_there(self):
        # Kinds of which none is needed are kept, too: six here.
        place = land(2, 1, [3, 5], [1, 2])
        for one in (0, 1):
            self.check([place, needs_of(1, 1)], one, 0, [6])
            self.check([place, needs_of(1, 1)], one, 2, [6])
            self.check([place, needs_of(1, 1)], one, 3, [7, 0])
            self.check([place, needs_of(1, 1)], one, 7, [7, 0])
            self.check([place, needs_of(1, 1)], one, 8, [8, 0, 1])
            self.check([place, needs_of(1, 1)], one, 12000, [8, 0, 1])

    def test_free_cells_with_nothing_to_spend(self):
        place = land(2, 1, [0, 5], [1, 2])
        for one in (0, 1):
            self.check([place, needs_of(1, 1)], one, 0, [7, 0])
            self.check([place, needs_of(1, 1)], one, 4, [7, 0])
            self.check([place, needs_of(1, 1)], one, 5, [8, 0, 1])

    def test_in_one_piece_or_not(self):
        place = land(3, 1, [1, 1, 1], [1, 0, 2])
        self.check([place, needs_of(1, 1)], 0, 2, [8, 0, 2])
        self.check([place, needs_of(1, 1)], 1, 2, [7, 0])
        self.check([place, needs_of(1, 1)], 1, 3, [8, 0, 1, 2])
        self.check([place, needs_of(0, 1)], 1, 2, [8, 2])

    def test_the_first_in_order_whatever_it_costs(self):
        self.check([land(2, 1, [9, 1], [1, 1]), needs_of(1)], 0, 12000, [8, 0])
        self.check([land(2, 1, [9, 1], [1, 1]), needs_of(1)], 0, 8, [8, 1])
        # {0, 1} has the number 3, {2} the number 4: the lesser is first, though it is dearer and has more cells.
        for one in (0, 1):
            self.check([land(3, 1, [9, 9, 1], [1, 2, 3]), needs_of(1, 1)], one, 18, [8, 0, 1])
            self.check([land(3, 1, [9, 9, 1], [1, 2, 3]), needs_of(1, 1)], one, 17, [8, 2])

    def test_more_kinds_go_before_the_order(self):
        place = land(3, 1, [1, 1, 1], [1, 2, 12])
        self.check([place, needs_of(1, 1, 1, 1)], 0, 1, [6, 2])
        self.check([place, needs_of(1, 1, 1, 1)], 0, 2, [7, 0, 2])
        self.check([place, needs_of(1, 1, 1, 1)], 1, 2, [7, 1, 2])
        self.check([place, needs_of(1, 1, 1, 1)], 1, 3, [8, 0, 1, 2])

    def test_a_kind_is_kept_only_as_often_as_needed(self):
        place = land(4, 1, [1] * 4, [3, 1, 1, 2])
        self.check([place, needs_of(2, 2)], 0, 1, [6])
        self.check([place, needs_of(2, 2)], 0, 2, [7, 0, 1])
        self.check([place, needs_of(2, 2)], 0, 3, [8, 0, 1, 3])
        self.check([place, needs_of(3, 2)], 0, 2, [7, 0, 3])
        self.check([place, needs_of(4, 2)], 0, 12000, [7, 0, 3])

    def test_nothing_is_kept(self):
        for one in (0, 1):
            self.check([land(3, 4, [1] * 12, [255] * 12), need([1] * 8)], one, 0, [0])
            self.check([land(3, 4, [0] * 12, [0] * 12), need([1] * 8)], one, 12000, [0])
            self.check([land(3, 4, [1000] * 12, [255] * 12), need([12] * 8)], one, 11999, [0])
            self.check([land(3, 4, [1000] * 12, [255] * 12), need([12] * 8)], one, 12000, [8] + list(range(12)))

    def test_one_row_and_one_column_of_12_cells(self):
        for w, h in ((12, 1), (1, 12)):
            place = land(w, h, [1000] * 12, [1] + [0] * 10 + [1])
            self.check([place, needs_of(2)], 0, 2000, [8, 0, 11])
            self.check([place, needs_of(2)], 0, 1999, [7])
            self.check([place, needs_of(2)], 1, 11999, [7])
            self.check([place, needs_of(2)], 1, 12000, [8] + list(range(12)))

    def test_needs_told_anew_and_another_land(self):
        self.assertEqual(
            ask(land(2, 1, [3, 5], [1, 2]), most(0, 9), needs_of(1), most(0, 9), needs_of(0, 1), most(0, 9),
                land(1, 1, [0], [3]), most(0, 0), needs_of(0, 1), most(1, 0)),
            [[0], [8], [0], [8, 0], [0], [8, 1], [0], [8], [0], [8, 0]])

    def test_against_all_sets(self):
        draw = Random(51)
        for w, h in SHAPES:
            for each in range(2 if w * h > 9 else 8):
                prices, kinds, needs = drawn_land(draw, w, h)
                for one in (0, 1):
                    for p in (0, draw.randint(0, sum(prices)), draw.randint(0, max(prices))):
                        cells = most_set(w, prices, kinds, needs, one, p)
                        with self.subTest(w=w, h=h, prices=prices, kinds=kinds, needs=needs, one=one, p=p):
                            self.assertEqual(last(land(w, h, prices, kinds), need(needs), most(one, p)),
                                             [count_kept(kinds, needs, cells), *cells])

    def test_it_agrees_with_the_other_calls(self):
        draw = Random(52)
        for w, h in SHAPES:
            for each in range(4):
                prices, kinds, needs = drawn_land(draw, w, h)
                begin = [land(w, h, prices, kinds), need(needs)]
                for one in (0, 1):
                    cheapest = last(*begin, best(one))[0]
                    p = draw.randint(0, sum(prices))
                    answer = last(*begin, most(one, p))
                    found = ask(*begin, price(answer[1:]), pieces(answer[1:]))[2:]
                    self.assertLessEqual(found[0][0], p)
                    self.assertTrue(one == 0 or found[1][0] <= 1)
                    # All eight kinds are kept just where the sum pays for a set that fits.
                    self.assertEqual(answer[0] == 8, 0 <= cheapest <= p)


if __name__ == "__main__":
    unittest.main()
