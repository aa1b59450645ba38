import unittest

from tests.lines import (GREATEST, LEAST, ask, best, bound, corridor, fits, hardy, land, last, most, must, need, number,
                         pieces, price, told, way)

PLACE = land(3, 2, [5, 0, 7, 1000, 2, 1], [1, 2, 255, 0, 128, 7])
NEEDS = need([1, 0, 2, 0, 0, 0, 0, 1])
HELD = [0, 3, 2, 5, 0, 7, 1000, 2, 1, 1, 2, 255, 0, 128, 7, 1, 0, 2, 0, 0, 0, 0, 1]


def hardy_set(cells):
    return hardy(12, cells)


# The calls with a set, with what they answer of the cell 0 of this land.
SET_CALLS = {fits: [0], price: [5], pieces: [1], corridor: [5, 0], hardy_set: [0]}
ENDS = (LEAST, LEAST + 1, GREATEST - 1, GREATEST)


class RefusalsTest(unittest.TestCase):
    def refused(self, call, refusal):
        """The call is refused where a land is held, by its number alone, and changes nothing."""
        with self.subTest(call=call):
            self.assertEqual(ask(PLACE, NEEDS, call, told()), [[0], [0], [refusal], HELD])

    def done(self, call, expected):
        with self.subTest(call=call):
            self.assertEqual(last(PLACE, NEEDS, call), expected)


class NoLandTest(unittest.TestCase):
    def test_all_calls_but_land(self):
        for call in (told(), need([0] * 8), fits([]), price([0]), pieces([0]), best(0), best(1), number(0), number(1),
                     must(), corridor([]), corridor([0]), way(0, 0), bound(1, [0] * 8, []), bound(1, [0] * 8, [0]),
                     hardy(0, []), hardy(0, [0]), most(0, 0), most(1, 12000)):
            with self.subTest(call=call):
                self.assertEqual(ask(call), [[-1]])

    def test_before_all_other_refusals(self):
        for call in (need([]), need([13] * 8), fits([LEAST]), price([0] * 30), pieces([12]), best(2), best(LEAST),
                     number(2), number(GREATEST), corridor([12]), corridor([0] * 30), way(-1, 12), way(LEAST, GREATEST),
                     bound(0, [], []), bound(1001, [-1] * 8, [0] * 30), hardy(13, []), hardy(0, [-1]), hardy(-1, [12]),
                     most(2, 0), most(0, -1), most(LEAST, GREATEST)):
            with self.subTest(call=call):
                self.assertEqual(ask(call), [[-1]])

    def test_a_refused_land_is_no_land(self):
        self.assertEqual(
            ask(land(0, 1, [], []), told(), land(1, 1, [1001], [0]), told(), land(1, 1, [1], [256]), told()),
            [[-3], [-1], [-4], [-1], [-4], [-1]])

    def test_needs_refused_without_a_land_are_not_held(self):
        self.assertEqual(ask(need([1] * 8), land(1, 1, [2], [3]), told()),
                         [[-1], [0], [0, 1, 1, 2, 3] + [0] * 8])


class LandRefusalsTest(RefusalsTest):
    def test_sides_out_of_range(self):
        for side in (LEAST, -12, -1, 0, 13, 14, GREATEST):
            self.refused(land(side, 1, [1], [1]), -3)
            self.refused(land(1, side, [1], [1]), -3)
            self.refused(land(side, side, [1], [1]), -3)
        # The product alone would be in range.
        self.refused(land(-1, -1, [1], [1]), -3)
        self.refused(land(-3, -4, [1] * 12, [1] * 12), -3)
        self.refused(land(0, 12, [], []), -3)
        self.refused(land(13, 1, [1] * 13, [1] * 13), -3)
        self.refused(land(1, 13, [1] * 13, [1] * 13), -3)

    def test_more_than_12_cells(self):
        for w in range(1, 13):
            for h in range(1, 13):
                if w * h > 12:
                    many = min(w * h, 30)
                    self.refused(land(w, h, [1] * many, [1] * many), -3)
                else:
                    self.done(land(w, h, [1] * (w * h), [1] * (w * h)), [0])

    def test_lengths(self):
        for length in range(31):
            if length == 6:
                self.done(land(2, 3, [1] * length, [1] * 6), [0])
                self.done(land(2, 3, [1] * 6, [1] * length), [0])
            else:
                self.refused(land(2, 3, [1] * length, [1] * 6), -4)
                self.refused(land(2, 3, [1] * 6, [1] * length), -4)
                self.refused(land(2, 3, [1] * length, [1] * length), -4)

    def test_prices_out_of_range(self):
        for wrong in (-1, 1001) + ENDS:
            for cell in range(4):
                prices = [7] * 4
                prices[cell] = wrong
                self.refused(land(2, 2, prices, [1] * 4), -4)
        for right in (0, 1, 999, 1000):
            self.done(land(2, 2, [7, 7, 7, right], [1] * 4), [0])

    def test_kinds_out_of_range(self):
        for wrong in (-1, 256) + ENDS:
            for cell in range(4):
                kinds = [7] * 4
                kinds[cell] = wrong
                self.refused(land(2, 2, [1] * 4, kinds), -4)
        for right in (0, 1, 254, 255):
            self.done(land(2, 2, [1] * 4, [7, 7, 7, right]), [0])

    def test_a_wrong_side_goes_before_a_wrong_list(self):
        self.refused(land(0, 1, [], [256]), -3)
        self.refused(land(4, 4, [-1] * 16, [256] * 3), -3)
        self.refused(land(GREATEST, GREATEST, [], []), -3)


class NeedRefusalsTest(RefusalsTest):
    def test_lengths(self):
        for length in range(31):
            if length != 8:
                self.refused(need([0] * length), -4)
        self.done(need([0] * 8), [0])

    def test_out_of_range(self):
        for wrong in (-1, 13) + ENDS:
            for kind in range(8):
                needs = [3] * 8
                needs[kind] = wrong
                self.refused(need(needs), -4)
        for right in (0, 1, 11, 12):
            self.done(need([right] * 8), [0])


class SetRefusalsTest(RefusalsTest):
    def test_lengths(self):
        for call, expected in SET_CALLS.items():
            for length in range(1, 25):
                self.done(call([0] * length), expected)
            for length in range(25, 31):
                self.refused(call([0] * length), -4)

    def test_members_out_of_range(self):
        for call in SET_CALLS:
            for wrong in (-1, 6, 7, 12) + ENDS:
                self.refused(call([wrong]), -4)
                self.refused(call([0, 1, wrong]), -4)
                self.refused(call([wrong, 5]), -4)
                self.refused(call([wrong] * 30), -4)
            self.assertNotEqual(last(PLACE, call([0, 5])), [-4])

    def test_the_range_is_that_of_the_land(self):
        for count in range(1, 13):
            place = land(count, 1, [1] * count, [0] * count)
            for call in SET_CALLS:
                with self.subTest(count=count, call=call):
                    self.assertEqual(last(place, call([count - 1]))[0], 1)
                    self.assertEqual(last(place, call([count])), [-4])


class OneRefusalsTest(RefusalsTest):
    def test_one_out_of_range(self):
        for one in (-1, 2, 3) + ENDS:
            self.refused(best(one), -3)
            self.refused(number(one), -3)
            self.refused(most(one, 5), -3)

    def test_no_set_fits(self):
        held = [0, 1, 1, 5, 254, 1, 0, 0, 0, 0, 0, 0, 0]
        for call in (best(0), best(1), must()):
            self.assertEqual(ask(land(1, 1, [5], [254]), need([1] + [0] * 7), call, told()), [[0], [0], [-6], held])

    def test_that_no_set_fits_is_no_refusal_of_other_calls(self):
        self.assertEqual(
            ask(land(1, 1, [5], [254]), need([1] + [0] * 7), number(0), number(1), corridor([0]), way(0, 0),
                bound(1, [5] + [0] * 7, [0]), hardy(0, [0]), most(0, 5), most(1, 5))[2:],
            [[0], [0], [5, 0], [5], [1, 5], [0], [7], [7]])

    def test_a_wrong_number_goes_before_no_set_that_fits(self):
        for one in (-1, 2) + ENDS:
            self.assertEqual(last(land(1, 1, [5], [254]), need([1] + [0] * 7), best(one)), [-3])


class MostRefusalsTest(RefusalsTest):
    def test_sum_out_of_range(self):
        for wrong in (-1, 12001) + ENDS:
            self.refused(most(0, wrong), -3)
            self.refused(most(1, wrong), -3)
            self.refused(most(2, wrong), -3)
        for one in (0, 1):
            self.done(most(one, 0), [5])
            self.done(most(one, 1), [6, 5])
            self.done(most(one, 11999), [8, 2, 5])
            self.done(most(one, 12000), [8, 2, 5])


class WayRefusalsTest(RefusalsTest):
    def test_ends_out_of_range(self):
        for wrong in (-1, 6, 7, 12) + ENDS:
            self.refused(way(wrong, 0), -3)
            self.refused(way(0, wrong), -3)
            self.refused(way(5, wrong), -3)
            self.refused(way(wrong, wrong), -3)
        self.done(way(0, 5), [8])
        self.done(way(5, 0), [8])

    def test_the_range_is_that_of_the_land(self):
        for w, h in ((1, 1), (3, 1), (1, 3), (2, 3), (12, 1), (1, 12), (4, 3)):
            place = land(w, h, [1] * (w * h), [0] * (w * h))
            self.assertGreater(last(place, way(0, w * h - 1))[0], 0)
            self.assertGreater(last(place, way(w * h - 1, 0))[0], 0)
            self.assertEqual(last(place, way(0, w * h)), [-3])
            self.assertEqual(last(place, way(w * h, 0)), [-3])


class BoundRefusalsTest(RefusalsTest):
    def test_divisor_out_of_range(self):
        for wrong in (-1000, -1, 0, 1001) + ENDS:
            self.refused(bound(wrong, [0] * 8, [0] * 6), -3)
        for right in (1, 2, 999, 1000):
            self.done(bound(right, [0] * 8, [0] * 6), [1, 0])

    def test_lengths(self):
        for length in range(31):
            if length != 8:
                self.refused(bound(1, [0] * length, [0] * 6), -4)
            if length != 6:
                self.refused(bound(1, [0] * 8, [0] * length), -4)
            self.refused(bound(1, [0] * length, [0] * (length + 1 if length < 30 else 0)), -4)
        self.done(bound(1, [0] * 8, [0] * 6), [1, 0])

    def test_as_many_rebates_as_cells(self):
        for count in range(1, 13):
            place = land(1, count, [1] * count, [0] * count)
            self.assertEqual(ask(place, *[bound(1, [0] * 8, [0] * many) for many in (count - 1, count, count + 1)])[1:],
                             [[-4], [1, 0], [-4]])

    def test_worths_out_of_range(self):
        for wrong in (-1, 1000001) + ENDS:
            for kind in range(8):
                worths = [0] * 8
                worths[kind] = wrong
                self.refused(bound(1, worths, [10000000] * 6), -4)
        for right in (0, 1, 999999, 1000000):
            for kind in range(8):
                worths = [0] * 8
                worths[kind] = right
                self.done(bound(1, worths, [10000000] * 6), [1, 0])

    def test_rebates_out_of_range(self):
        for wrong in (-1, 10000001) + ENDS:
            for cell in range(6):
                rebates = [0] * 6
                rebates[cell] = wrong
                self.refused(bound(1, [0] * 8, rebates), -4)
        for right in (0, 1, 9999999, 10000000):
            for cell in range(6):
                rebates = [0] * 6
                rebates[cell] = right
                self.done(bound(1, [0] * 8, rebates), [1, 0])

    def test_a_wrong_divisor_goes_before_a_wrong_list(self):
        for wrong in (0, 1001) + ENDS:
            self.refused(bound(wrong, [], []), -3)
            self.refused(bound(wrong, [-1] * 8, [0] * 6), -3)
            self.refused(bound(wrong, [0] * 8, [10000001] * 6), -3)

    def test_a_wrong_list_goes_before_a_proof_that_does_not_hold(self):
        place = land(2, 1, [0, 0], [255, 255])
        self.assertEqual(ask(place, bound(1, [1] * 8, [0, 0]), bound(1, [1] * 8, [0, -1]), bound(1, [1] * 8, [0]),
                             bound(1, [1] * 9, [0, 0]))[1:], [[0], [-4], [-4], [-4]])


class HardyRefusalsTest(RefusalsTest):
    def test_lost_out_of_range(self):
        for wrong in (-1, 13, 14) + ENDS:
            self.refused(hardy(wrong, []), -3)
            self.refused(hardy(wrong, [0, 5]), -3)
        for right in (0, 1, 11, 12):
            self.done(hardy(right, [0, 1]), [0])

    def test_a_wrong_number_goes_before_a_wrong_list(self):
        for wrong in (-1, 13) + ENDS:
            self.refused(hardy(wrong, [6]), -3)
            self.refused(hardy(wrong, [0] * 25), -3)


class AfterARefusalTest(unittest.TestCase):
    def test_the_next_call_is_found(self):
        self.assertEqual(
            ask(need([6, 1, 6]), land(99, 1, [0] * 30, [6] * 30), PLACE, price([6] * 30), best(7), price([0]),
                need([1]), fits([1])),
            [[-1], [-3], [0], [-4], [-3], [5], [-4], [1]])

    def test_the_next_call_is_found_behind_each_of_the_others(self):
        for call, refusal in ((number(8), -3), (corridor([8] * 30), -4), (way(8, 8), -3),
                              (bound(0, [8] * 30, [8] * 30), -3), (bound(8, [], [8] * 30), -4),
                              (hardy(13, [8] * 30), -3), (hardy(8, [8] * 30), -4), (most(8, 8), -3)):
            with self.subTest(call=call):
                self.assertEqual(ask(call, PLACE, call, price([0]), call, price([3])),
                                 [[-1], [0], [refusal], [5], [refusal], [1000]])
        self.assertEqual(ask(must(), PLACE, need([12] * 8), must(), price([0])), [[-1], [0], [0], [-6], [5]])


if __name__ == "__main__":
    unittest.main()
