import unittest

from tests.lines import GREATEST, LEAST, ask, best, fits, land, last, need, pieces, price, told

PLACE = land(3, 2, [5, 0, 7, 1000, 2, 1], [1, 2, 255, 0, 128, 7])
NEEDS = need([1, 0, 2, 0, 0, 0, 0, 1])
HELD = [0, 3, 2, 5, 0, 7, 1000, 2, 1, 1, 2, 255, 0, 128, 7, 1, 0, 2, 0, 0, 0, 0, 1]
SET_CALLS = (fits, price, pieces)
ENDS = (LEAST, LEAST + 1, GREATEST - 1, GREATEST)


class RefusalsTest(unittest.TestCase):
    def refused(self, call, number):
        """The call is refused where a land is held, by its number alone, and changes nothing."""
        with self.subTest(call=call):
            self.assertEqual(ask(PLACE, NEEDS, call, told()), [[0], [0], [number], HELD])

    def done(self, call, expected):
        with self.subTest(call=call):
            self.assertEqual(last(PLACE, NEEDS, call), expected)


class NoLandTest(unittest.TestCase):
    def test_all_calls_but_land(self):
        for call in (told(), need([0] * 8), fits([]), price([0]), pieces([0]), best(0), best(1)):
            with self.subTest(call=call):
                self.assertEqual(ask(call), [[-1]])

    def test_before_all_other_refusals(self):
        for call in (need([]), need([13] * 8), fits([LEAST]), price([0] * 30), pieces([12]), best(2), best(LEAST)):
            with self.subTest(call=call):
                self.assertEqual(ask(call), [[-1]])

    def test_a_refused_land_is_no_land(self):
        self.assertEqual(ask(land(0, 1, [], []), told(), land(1, 1, [1001], [0]), told(), land(1, 1, [1], [256]), told()),
                         [[-3], [-1], [-4], [-1], [-4], [-1]])

    def test_needs_refused_without_a_land_are_not_held(self):
        self.assertEqual(ask(need([1] * 8), land(1, 1, [2], [3]), told()),
                         [[-1], [0], [0, 1, 1, 2, 3] + [0] * 8])


class LandRefusalsTest(RefusalsTest):
    def test_sides_out_of_range(self):
        for side in (LEAST, -12, -1, 0, 13, 14, GREATEST):
            self.refused(land(side, 1, [1], [1]), -3)
            self.refused(land(1, side, [1], [1]), -3)
            self.refused(land(side, side, [1], [1]), -3)
        # The product alone would be in range.
        self.refused(land(-1, -1, [1], [1]), -3)
        self.refused(land(-3, -4, [1] * 12, [1] * 12), -3)
        self.refused(land(0, 12, [], []), -3)
        self.refused(land(13, 1, [1] * 13, [1] * 13), -3)
        self.refused(land(1, 13, [1] * 13, [1] * 13), -3)

    def test_more_than_12_cells(self):
        for w in range(1, 13):
            for h in range(1, 13):
                if w * h > 12:
                    many = min(w * h, 30)
                    self.refused(land(w, h, [1] * many, [1] * many), -3)
                else:
                    self.done(land(w, h, [1] * (w * h), [1] * (w * h)), [0])

    def test_lengths(self):
        for length in range(31):
            if length == 6:
                self.done(land(2, 3, [1] * length, [1] * 6), [0])
                self.done(land(2, 3, [1] * 6, [1] * length), [0])
            else:
                self.refused(land(2, 3, [1] * length, [1] * 6), -4)
                self.refused(land(2, 3, [1] * 6, [1] * length), -4)
                self.refused(land(2, 3, [1] * length, [1] * length), -4)

    def test_prices_out_of_range(self):
        for wrong in (-1, 1001) + ENDS:
            for cell in range(4):
                prices = [7] * 4
                prices[cell] = wrong
                self.refused(land(2, 2, prices, [1] * 4), -4)
        for right in (0, 1, 999, 1000):
            self.done(land(2, 2, [7, 7, 7, right], [1] * 4), [0])

    def test_kinds_out_of_range(self):
        for wrong in (-1, 256) + ENDS:
            for cell in range(4):
                kinds = [7] * 4
                kinds[cell] = wrong
                self.refused(land(2, 2, [1] * 4, kinds), -4)
        for right in (0, 1, 254, 255):
            self.done(land(2, 2, [1] * 4, [7, 7, 7, right]), [0])

    def test_a_wrong_side_goes_before_a_wrong_list(self):
        self.refused(land(0, 1, [], [256]), -3)
        self.refused(land(4, 4, [-1] * 16, [256] * 3), -3)
        self.refused(land(GREATEST, GREATEST, [], []), -3)


class NeedRefusalsTest(RefusalsTest):
    def test_lengths(self):
        for length in range(31):
            if length != 8:
                self.refused(need([0] * length), -4)
        self.done(need([0] * 8), [0])

    def test_out_of_range(self):
        for wrong in (-1, 13) + ENDS:
            for kind in range(8):
                needs = [3] * 8
                needs[kind] = wrong
                self.refused(need(needs), -4)
        for right in (0, 1, 11, 12):
            self.done(need([right] * 8), [0])


class SetRefusalsTest(RefusalsTest):
    def test_lengths(self):
        expected = {fits: [0], price: [5], pieces: [1]}
        for call in SET_CALLS:
            for length in range(1, 25):
                self.done(call([0] * length), expected[call])
            for length in range(25, 31):
                self.refused(call([0] * length), -4)

    def test_members_out_of_range(self):
        for call in SET_CALLS:
            for wrong in (-1, 6, 7, 12) + ENDS:
                self.refused(call([wrong]), -4)
                self.refused(call([0, 1, wrong]), -4)
                self.refused(call([wrong, 5]), -4)
                self.refused(call([wrong] * 30), -4)
            self.assertNotEqual(last(PLACE, call([0, 5])), [-4])

    def test_the_range_is_that_of_the_land(self):
        for count in range(1, 13):
            place = land(count, 1, [1] * count, [0] * count)
            for call in SET_CALLS:
                with self.subTest(count=count, call=call):
                    self.assertEqual(last(place, call([count - 1])), [1])
                    self.assertEqual(last(place, call([count])), [-4])


class BestRefusalsTest(RefusalsTest):
    def test_one_out_of_range(self):
        for one in (-1, 2, 3) + ENDS:
            self.refused(best(one), -3)

    def test_no_set_fits(self):
        held = [0, 1, 1, 5, 254, 1, 0, 0, 0, 0, 0, 0, 0]
        for one in (0, 1):
            self.assertEqual(ask(land(1, 1, [5], [254]), need([1] + [0] * 7), best(one), told()),
                             [[0], [0], [-6], held])

    def test_a_wrong_number_goes_before_no_set_that_fits(self):
        for one in (-1, 2) + ENDS:
            self.assertEqual(last(land(1, 1, [5], [254]), need([1] + [0] * 7), best(one)), [-3])


class AfterARefusalTest(unittest.TestCase):
    def test_the_next_call_is_found(self):
        self.assertEqual(
            ask(need([6, 1, 6]), land(99, 1, [0] * 30, [6] * 30), PLACE, price([6] * 30), best(7), price([0]), need([1]),
                fits([1])),
            [[-1], [-3], [0], [-4], [-3], [5], [-4], [1]])


if __name__ == "__main__":
    unittest.main()
