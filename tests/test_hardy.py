import unittest
from random import Random

from tests.drawn import SHAPES, drawn_land
from tests.lines import ask, fits, hardy, land, last, need
from tests.plain import is_hardy

TRIPLE = land(3, 1, [1, 1, 1], [1, 1, 1])
FULL = land(4, 3, [1] * 12, [255] * 12)


def first(many):
    return need([many, 0, 0, 0, 0, 0, 0, 0])


class HardyTest(unittest.TestCase):
    def check(self, calls, r, cells, expected):
        with self.subTest(calls=calls, r=r, cells=cells):
            self.assertEqual(last(*calls, hardy(r, cells)), [expected])

    def test_ordinary(self):
        self.check([TRIPLE, first(2)], 0, [0, 1, 2], 1)
        self.check([TRIPLE, first(2)], 1, [0, 1, 2], 1)
        self.check([TRIPLE, first(2)], 2, [0, 1, 2], 0)
        self.check([TRIPLE, first(1)], 2, [0, 1, 2], 1)
        self.check([TRIPLE, first(1)], 3, [0, 1, 2], 0)
        self.check([TRIPLE, first(1)], 1, [0, 2], 1)
        self.check([TRIPLE, first(1)], 1, [1], 0)

    def test_with_none_lost_it_is_fits(self):
        self.check([TRIPLE, first(2)], 0, [0, 2], 1)
        self.check([TRIPLE, first(2)], 0, [2], 0)
        self.check([TRIPLE, first(3)], 0, [0, 1, 2], 1)
        self.check([TRIPLE, first(4)], 0, [0, 1, 2], 0)

    def test_any_of_its_cells_may_be_lost(self):
        # Two cells hold each kind: one may be lost, but not both of one kind.
        place = land(2, 2, [1] * 4, [1, 1, 2, 2])
        needs = need([1, 1, 0, 0, 0, 0, 0, 0])
        self.check([place, needs], 1, [0, 1, 2, 3], 1)
        self.check([place, needs], 2, [0, 1, 2, 3], 0)
        self.check([place, needs], 1, [0, 1, 2], 0)
        # What is lost need not hold a kind that is needed; the worst counts.
        place = land(4, 1, [1] * 4, [1, 0, 0, 0])
        self.check([place, first(1)], 1, [0, 1, 2, 3], 0)
        self.check([place, first(1)], 0, [0, 1, 2, 3], 1)

    def test_each_kind_by_itself(self):
        for kind in range(8):
            needs = [0] * 8
            needs[kind] = 1
            self.check([land(3, 1, [1] * 3, [2 ** kind] * 3), need(needs)], 2, [0, 1, 2], 1)
            self.check([land(3, 1, [1] * 3, [255, 255 - 2 ** kind, 255]), need(needs)], 2, [0, 1, 2], 0)

    def test_more_may_be_lost_than_there_are(self):
        for r in range(2, 13):
            self.check([TRIPLE, first(1)], r, [0, 1], 0)
            self.check([TRIPLE, first(0)], r, [0, 1], 1)

    def test_the_empty_set(self):
        for r in (0, 1, 12):
            self.check([TRIPLE], r, [], 1)
            self.check([TRIPLE, first(1)], r, [], 0)
            self.check([TRIPLE, need([0] * 7 + [12])], r, [], 0)

    def test_kinds_of_which_none_is_needed(self):
        for r in (0, 1, 6, 12):
            for cells in ([], [3], [0, 5, 11], list(range(12))):
                self.check([FULL], r, cells, 1)
                self.check([land(1, 12, [0] * 12, [0] * 12)], r, cells, 1)

    def test_12_cells(self):
        everything = list(range(12))
        for w, h in ((12, 1), (1, 12), (4, 3)):
            place = land(w, h, [0] * 12, [255] * 12)
            for r in range(13):
                self.check([place, need([12 - r] * 8)], r, everything, 1)
                if r > 0:
                    self.check([place, need([12 - r] * 7 + [13 - r])], r, everything, 0)
        self.check([FULL, first(1)], 12, everything, 0)
        self.check([FULL, first(1)], 11, everything, 1)
        self.check([FULL, first(12)], 0, everything, 1)
        self.check([FULL, first(12)], 1, everything, 0)

    def test_a_cell_told_twice_is_one(self):
        self.check([TRIPLE, first(1)], 1, [0, 0], 0)
        self.check([TRIPLE, first(1)], 1, [2] * 24, 0)
        self.check([TRIPLE, first(1)], 1, [2, 0] * 12, 1)
        self.check([FULL, need([6] * 8)], 6, list(range(12)) * 2, 1)
        self.check([FULL, need([6] * 8)], 7, list(range(12)) * 2, 0)

    def test_needs_told_anew_and_another_land(self):
        self.assertEqual(
            ask(TRIPLE, first(2), hardy(1, [0, 1]), first(1), hardy(1, [0, 1]), land(3, 1, [0] * 3, [1, 0, 1]),
                hardy(1, [0, 1]), first(1), hardy(1, [0, 1]), hardy(1, [0, 2])),
            [[0], [0], [0], [0], [1], [0], [1], [0], [0], [1]])

    def test_against_all_that_may_be_left_out(self):
        draw = Random(41)
        for w, h in SHAPES:
            for each in range(10):
                prices, kinds, needs = drawn_land(draw, w, h)
                needs = [max(0, often - draw.choice([0, 1, 2, 3])) for often in needs]
                asked = []
                for question in range(6):
                    cells = draw.sample(range(w * h), draw.choice([draw.randint(0, w * h), w * h]))
                    asked.append((draw.choice([0, 1, 1, 2, 3, 12]), sorted(cells)))
                found = ask(land(w, h, prices, kinds), need(needs), *[hardy(r, cells) for r, cells in asked])[2:]
                with self.subTest(w=w, h=h, kinds=kinds, needs=needs, asked=asked):
                    self.assertEqual(found, [[1 if is_hardy(kinds, needs, r, cells) else 0] for r, cells in asked])

    def test_it_agrees_with_fits(self):
        draw = Random(42)
        for w, h in SHAPES:
            prices, kinds, needs = drawn_land(draw, w, h)
            sets = [draw.sample(range(w * h), draw.randint(0, w * h)) for each in range(5)]
            begin = [land(w, h, prices, kinds), need(needs)]
            self.assertEqual(ask(*begin, *map(fits, sets)), ask(*begin, *[hardy(0, cells) for cells in sets]))


if __name__ == "__main__":
    unittest.main()
