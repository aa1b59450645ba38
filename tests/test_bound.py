import unittest
from random import Random

from tests.drawn import SHAPES, drawn_land
from tests.lines import ask, best, bound, land, last, need
from tests.plain import all_sets, bound_price, does_fit, is_accepted, price_of

# Two cells that both hold the kind 0 alone, at the prices 5 and 3.
PAIR = land(2, 1, [5, 3], [1, 1])
ONE_NEEDED = need([1, 0, 0, 0, 0, 0, 0, 0])


def first(worth):
    return [worth, 0, 0, 0, 0, 0, 0, 0]


class BoundTest(unittest.TestCase):
    def test_ordinary(self):
        self.assertEqual(last(PAIR, ONE_NEEDED, bound(1, first(2), [0, 0])), [1, 2])
        self.assertEqual(last(PAIR, need(first(2)), bound(1, first(2), [0, 0])), [1, 4])
        self.assertEqual(last(PAIR, need(first(2)), bound(1, first(5), [0, 2])), [1, 8])

    def test_a_cell_s_worths_just_at_and_just_above_what_is_allowed(self):
        self.assertEqual(last(PAIR, ONE_NEEDED, bound(1, first(3), [0, 0])), [1, 3])
        self.assertEqual(last(PAIR, ONE_NEEDED, bound(1, first(4), [0, 0])), [0])
        self.assertEqual(last(PAIR, ONE_NEEDED, bound(1, first(4), [0, 1])), [1, 3])
        self.assertEqual(last(PAIR, ONE_NEEDED, bound(1, first(5), [0, 1])), [0])
        self.assertEqual(last(PAIR, ONE_NEEDED, bound(1, first(5), [0, 2])), [1, 3])
        # A rebate helps its own cell alone.
        self.assertEqual(last(PAIR, ONE_NEEDED, bound(1, first(4), [1, 0])), [0])
        self.assertEqual(last(PAIR, ONE_NEEDED, bound(1, first(6), [1, 3])), [1, 2])
        self.assertEqual(last(PAIR, ONE_NEEDED, bound(1, first(6), [0, 3])), [0])

    def test_each_cell_is_looked_at(self):
        for wrong in range(12):
            rebates = [4] * 12
            place = land(4, 3, [0] * 12, [1] * 12)
            self.assertEqual(last(place, bound(1, first(4), rebates)), [1, 0])
            rebates[wrong] = 3
            self.assertEqual(last(place, bound(1, first(4), rebates)), [0])

    def test_only_the_kinds_that_a_cell_holds_count(self):
        worths = [1, 2, 4, 8, 16, 32, 64, 128]
        for held in (0, 1, 2, 64, 128, 129, 90, 255):
            self.assertEqual(last(land(1, 1, [0], [held]), bound(1, worths, [held])), [1, 0])
            if held > 0:
                self.assertEqual(last(land(1, 1, [0], [held]), bound(1, worths, [held - 1])), [0])

    def test_kinds_of_which_none_is_needed_are_paid_in_vain(self):
        place = land(2, 1, [5, 3], [3, 3])
        self.assertEqual(last(place, ONE_NEEDED, bound(1, [2, 1, 0, 0, 0, 0, 0, 0], [0, 0])), [1, 2])
        self.assertEqual(last(place, ONE_NEEDED, bound(1, [2, 2, 0, 0, 0, 0, 0, 0], [0, 0])), [0])

    def test_every_kind_s_need_counts(self):
        place = land(1, 1, [1000], [255])
        for kind in range(8):
            worths = [0] * 8
            worths[kind] = 7
            needs = [0] * 8
            needs[kind] = 12
            self.assertEqual(last(place, need(needs), bound(1, worths, [0])), [1, 84])
        self.assertEqual(last(place, need([1, 2, 3, 4, 5, 6, 7, 8]), bound(1, [8, 7, 6, 5, 4, 3, 2, 1], [0])), [1, 120])

    def test_rounded_up_and_not(self):
        for worth, expected in ((0, 0), (1, 1), (2, 1), (3, 2), (4, 2), (5, 3), (6, 3)):
            self.assertEqual(last(PAIR, ONE_NEEDED, bound(2, first(worth), [0, 0])), [1, expected])
        self.assertEqual(last(PAIR, ONE_NEEDED, bound(2, first(7), [0, 0])), [0])
        for worth, expected in ((1, 1), (999, 1), (1000, 1), (1001, 2), (2000, 2), (2001, 3), (3000, 3)):
            self.assertEqual(last(PAIR, ONE_NEEDED, bound(1000, first(worth), [0, 0])), [1, expected])

    def test_divisors_1_and_1000(self):
        dear = land(2, 1, [1000, 1000], [1, 1])
        self.assertEqual(last(dear, ONE_NEEDED, bound(1, first(1000), [0, 0])), [1, 1000])
        self.assertEqual(last(dear, ONE_NEEDED, bound(1, first(1001), [0, 0])), [0])
        self.assertEqual(last(dear, ONE_NEEDED, bound(1000, first(1000000), [0, 0])), [1, 1000])
        self.assertEqual(last(dear, ONE_NEEDED, bound(999, first(1000000), [0, 0])), [0])
        self.assertEqual(last(dear, ONE_NEEDED, bound(999, first(999000), [0, 0])), [1, 1000])

    def test_less_needed_than_rebated(self):
        # P and S just apart, alike, and far apart.
        self.assertEqual(last(PAIR, ONE_NEEDED, bound(1, first(3), [0, 2])), [1, 1])
        self.assertEqual(last(PAIR, ONE_NEEDED, bound(1, first(3), [0, 3])), [1, 0])
        self.assertEqual(last(PAIR, ONE_NEEDED, bound(1, first(3), [0, 4])), [1, 0])
        self.assertEqual(last(PAIR, ONE_NEEDED, bound(3, first(3), [10000000, 10000000])), [1, 0])

    def test_worths_0(self):
        for d in (1, 1000):
            for rebate in (0, 10000000):
                self.assertEqual(last(PAIR, need([12] * 8), bound(d, [0] * 8, [rebate] * 2)), [1, 0])

    def test_greatest_worths_and_rebates(self):
        full = land(3, 4, [1000] * 12, [255] * 12)
        worths = [1000000] * 8
        self.assertEqual(last(full, need([12] * 8), bound(1000, worths, [7000000] * 12)), [1, 12000])
        self.assertEqual(last(full, need([12] * 8), bound(1000, worths, [7000000] * 11 + [6999999])), [0])
        self.assertEqual(last(full, need([12] * 8), bound(1, worths, [7999000] * 12)), [1, 12000])
        self.assertEqual(last(full, need([12] * 8), bound(1, worths, [10000000] * 12)), [1, 0])
        bare = land(12, 1, [0] * 12, [0] * 12)
        self.assertEqual(last(bare, need([12] * 8), bound(1, worths, [0] * 12)), [1, 96000000])
        self.assertEqual(last(bare, need([12] * 8), bound(1000, worths, [0] * 12)), [1, 96000])

    def test_one_row_and_one_column_of_12_cells(self):
        for w, h in ((12, 1), (1, 12)):
            place = land(w, h, list(range(12)), [1] * 12)
            rebates = [max(0, 7 - cell) for cell in range(12)]
            # The eight cheapest cost 28: the rebates take 28 off 8 times 7.
            self.assertEqual(ask(place, need(first(8)), bound(1, first(7), rebates), best(0))[2:],
                             [[1, 28], [28] + list(range(8))])

    def test_needs_told_anew_and_another_land(self):
        self.assertEqual(
            ask(PAIR, bound(1, first(3), [0, 0]), ONE_NEEDED, bound(1, first(3), [0, 0]), need(first(2)),
                bound(1, first(3), [0, 0]), land(1, 1, [2], [1]), bound(1, first(3), [1]), bound(1, first(3), [0])),
            [[0], [1, 0], [0], [1, 3], [0], [1, 6], [0], [1, 0], [0]])


def drawn_proof(draw, prices, kinds):
    """Mostly one that is accepted, just so or with a rest; else one that a cell forbids."""
    d = draw.choice([1, 2, 3, 7, draw.randint(1, 1000), 1000])
    greatest = draw.choice([0, 5, 200, 10 * d, 1000000])
    worths = [draw.randint(0, greatest) for kind in range(8)]
    rebates = []
    for cell, held in enumerate(kinds):
        over = sum(worth for kind, worth in enumerate(worths) if held >> kind & 1) - d * prices[cell]
        rebates.append(max(0, over + draw.choice([0, 0, 0, 0, 0, 1, 50])))
    if draw.random() < 0.2:
        cell = draw.randrange(len(rebates))
        rebates[cell] = max(0, rebates[cell] - 1)
    return d, worths, rebates


class Promise2Test(unittest.TestCase):
    def test_no_set_that_fits_costs_less(self):
        draw = Random(31)
        accepted = 0
        above = 0
        for w, h in SHAPES:
            for each in range(4 if w * h > 9 else 20):
                prices, kinds, needs = drawn_land(draw, w, h)
                proofs = [drawn_proof(draw, prices, kinds) for proof in range(6)]
                answers = ask(land(w, h, prices, kinds), need(needs), *[bound(*proof) for proof in proofs])[2:]
                found = [answer[1] for answer in answers if answer[0] == 1]
                accepted += len(found)
                above += sum(1 for price in found if price > 0)
                for cells in all_sets(w * h):
                    if found and price_of(prices, cells) < max(found):
                        with self.subTest(w=w, prices=prices, kinds=kinds, needs=needs, cells=cells):
                            self.assertFalse(does_fit(kinds, needs, cells))
        # Bounds that are all 0 would show nothing.
        self.assertGreater(accepted, 500)
        self.assertGreater(above, 100)

    def test_a_bound_may_be_what_the_best_costs(self):
        draw = Random(32)
        for each in range(40):
            prices = [draw.randint(0, 1000) for cell in range(12)]
            many = draw.randint(1, 12)
            dearest = sorted(prices)[many - 1]
            rebates = [max(0, dearest - price) for price in prices]
            found = ask(land(4, 3, prices, [128] * 12), need([0] * 7 + [many]), best(0),
                        bound(1, [0] * 7 + [dearest], rebates))[2:]
            self.assertEqual(found[1], [1, found[0][0]])

    def test_against_the_plain_words(self):
        draw = Random(33)
        for w, h in SHAPES:
            for each in range(20):
                prices, kinds, needs = drawn_land(draw, w, h)
                proof = drawn_proof(draw, prices, kinds)
                expected = [1, bound_price(needs, *proof)] if is_accepted(prices, kinds, *proof) else [0]
                with self.subTest(w=w, h=h, prices=prices, kinds=kinds, needs=needs, proof=proof):
                    self.assertEqual(last(land(w, h, prices, kinds), need(needs), bound(*proof)), expected)


if __name__ == "__main__":
    unittest.main()
