import contextlib
import io
import unittest
from random import Random

from landreserves.land import answers
from tests.lines import GREATEST, LEAST, best, fits, flat, land, need, parted, pieces, price, told
from tests.plain import plain_answers

ODD = (LEAST, -1000, -13, -1, 0, 1, 2, 8, 11, 12, 13, 24, 255, 256, 1000, 1001, GREATEST)


class Unchanging(list):
    """A list that can't be changed, not for a while either."""

    def refuse(self, *given):
        raise AssertionError("what is handed in was changed")

    append = clear = extend = insert = pop = remove = reverse = sort = refuse
    __setitem__ = __delitem__ = __iadd__ = __imul__ = refuse


def drawn_list(draw, length, most):
    """Mostly as told, else of another length or with a member out of range."""
    chance = draw.random()
    if chance < 0.08:
        length = draw.randint(0, 30)
    numbers = [draw.randint(0, most) for each in range(length)]
    if chance > 0.92 and length > 0:
        numbers[draw.randrange(length)] = draw.choice(ODD)
    return numbers


def drawn_land(draw):
    w = draw.randint(1, 4)
    h = draw.randint(1, 12 // w)
    if draw.random() < 0.5:
        w, h = h, w
    prices = drawn_list(draw, w * h, draw.choice([0, 2, 1000]))
    kinds = drawn_list(draw, w * h, draw.choice([0, 3, 255, 255]))
    if draw.random() < 0.15:
        w, h = draw.choice([(w, draw.choice(ODD)), (draw.choice(ODD), h)])
    return land(w, h, prices, kinds)


def drawn_call(draw):
    chance = draw.random()
    if chance < 0.15:
        return drawn_land(draw)
    if chance < 0.25:
        return told()
    if chance < 0.4:
        return need(drawn_list(draw, 8, draw.choice([1, 1, 2, 12])))
    if chance < 0.5:
        return best(draw.choice([0, 1, 0, 1, 0, 1, draw.choice(ODD)]))
    cells = [draw.randint(0, draw.choice([3, 5, 11])) for each in range(draw.choice([0, 1, 3, 6, 12, 24, 25]))]
    return draw.choice([fits, price, pieces])(cells)


class InterfaceTest(unittest.TestCase):
    def test_the_list_as_it_stands(self):
        line = [1, 0, 2, 1, 2, 7, 9, 2, 1, 2, 2, 8, 0, 1, 0, 0, 0, 0, 0, 0, 1, 3, 1, 0, 4, 2, 1, 0, 5, 0, 6, 1, 6, 9]
        self.assertEqual(answers(line), [
            1, -1,
            1, 0,
            1, 0,
            15, 0, 2, 1, 7, 9, 1, 2, 0, 1, 0, 0, 0, 0, 0, 0,
            1, 0,
            1, 16,
            1, 0,
            2, 9, 1,
            1, -3])

    def test_one_call_alone(self):
        self.assertEqual(answers([1]), [1, -1])
        self.assertEqual(answers([0, 1, 1, 1, 0, 1, 0]), [1, 0])

    def test_many_lines_against_the_plain_program(self):
        draw = Random(4)
        for each in range(120):
            calls = [drawn_call(draw) for call in range(draw.randint(1, 40))]
            with self.subTest(calls=calls):
                self.assertEqual(parted(answers(flat(calls))), plain_answers(calls))

    def test_what_is_handed_in_is_not_changed(self):
        draw = Random(5)
        for each in range(100):
            line = flat([drawn_call(draw) for call in range(30)])
            before = list(line)
            given = answers(line)
            self.assertEqual(line, before)
            self.assertEqual(answers(Unchanging(line)), given)

    def test_what_is_given_back_is_a_list_of_whole_numbers(self):
        place = land(2, 2, [1, 2, 3, 4], [1, 1, 2, 2])
        given = answers(flat([place, need([1] * 2 + [0] * 6), fits([0, 2]), fits([]), best(0), best(1), best(2), told()]))
        self.assertIs(list, type(given))
        self.assertEqual({int}, {type(number) for number in given})

    def test_nothing_is_kept_from_one_time_to_the_next(self):
        place = land(2, 1, [3, 4], [1, 1])
        line = flat([told(), place, told(), need([2] + [0] * 7), best(0), told()])
        first = answers(line)
        self.assertEqual(answers(line), first)
        self.assertEqual(answers(flat([told()])), [1, -1])
        self.assertEqual(answers(flat([place, told()])), [1, 0, 15, 0, 2, 1, 3, 4, 1, 1] + [0] * 8)
        first.clear()
        self.assertNotEqual(answers(line), first)

    def test_what_is_given_back_may_be_changed(self):
        line = flat([land(1, 1, [3], [1]), told(), told()])
        given = answers(line)
        for place in range(len(given)):
            given[place] = 77
        self.assertEqual(answers(line), [1, 0] + ([13, 0, 1, 1, 3, 1] + [0] * 8) * 2)

    def test_nothing_is_printed(self):
        out = io.StringIO()
        err = io.StringIO()
        with contextlib.redirect_stdout(out), contextlib.redirect_stderr(err):
            answers(flat([told(), land(1, 1, [3], [1]), told(), best(0), best(9)]))
        self.assertEqual((out.getvalue(), err.getvalue()), ("", ""))

    def test_the_longest_line(self):
        place = land(4, 3, list(range(12)), [255] * 12)
        calls = [place, need([6] * 8)] + [best(1)] * 200 + [pieces([0] * 30), pieces([0, 11] * 12)] * 99
        self.assertEqual(len(calls), 400)
        found = parted(answers(flat(calls)))
        self.assertEqual(found[:2], [[0], [0]])
        self.assertEqual(found[2:202], [[15, 0, 1, 2, 3, 4, 5]] * 200)
        self.assertEqual(found[202:], [[-4], [2]] * 99)


if __name__ == "__main__":
    unittest.main()
