import contextlib
import io
import unittest
from random import Random

from landreserves.land import answers
from tests.lines import (GREATEST, LEAST, best, bound, corridor, fits, flat, hardy, land, most, must, need, number,
                         parted, pieces, price, told, way)
from tests.plain import plain_answers

ODD = (LEAST, -1000, -13, -1, 0, 1, 2, 8, 11, 12, 13, 24, 255, 256, 1000, 1001, 12000, 12001, 1000000, 1000001,
       10000000, 10000001, GREATEST)


class Unchanging(list):
    """A list that can't be changed, not for a while either."""

    def refuse(self, *given):
        raise AssertionError("what is handed in was changed")

    append = clear = extend = insert = pop = remove = reverse = sort = refuse
    __setitem__ = __delitem__ = __iadd__ = __imul__ = refuse


def drawn_list(draw, length, most):
    """Mostly as told, else of another length or with a member out of range."""
    chance = draw.random()
    if chance < 0.08:
        length = draw.randint(0, 30)
    numbers = [draw.randint(0, most) for each in range(length)]
    if chance > 0.92 and length > 0:
        numbers[draw.randrange(length)] = draw.choice(ODD)
    return numbers


def drawn_land(draw):
    w = draw.randint(1, 4)
    h = draw.randint(1, 12 // w)
    if draw.random() < 0.5:
        w, h = h, w
    prices = drawn_list(draw, w * h, draw.choice([0, 2, 1000]))
    kinds = drawn_list(draw, w * h, draw.choice([0, 3, 255, 255]))
    if draw.random() < 0.15:
        w, h = draw.choice([(w, draw.choice(ODD)), (draw.choice(ODD), h)])
    return land(w, h, prices, kinds)


def drawn_number(draw, least, greatest):
    return draw.choice(ODD) if draw.random() < 0.1 else draw.randint(least, greatest)


def drawn_cell(draw, count):
    return drawn_number(draw, 0, count - 1)


def drawn_set(draw, count):
    """Mostly of the land's cells."""
    greatest = count if draw.random() < 0.1 else count - 1
    return [draw.randint(0, greatest) for each in range(draw.choice([0, 1, 2, 3, 6, 12, 24, 25]))]


def drawn_bound(draw, count):
    worths = drawn_list(draw, 8, draw.choice([0, 2, 1000, 1000000]))
    rebates = drawn_list(draw, count, draw.choice([1, 2000, 10000000]))
    return bound(drawn_number(draw, 1, draw.choice([2, 1000])), worths, rebates)


def drawn_call(draw, count):
    chance = draw.random()
    if chance < 0.1:
        return drawn_land(draw)
    if chance < 0.2:
        return told()
    if chance < 0.35:
        return need(drawn_list(draw, 8, draw.choice([1, 1, 2, 12])))
    if chance < 0.55:
        return draw.choice([fits, price, pieces, corridor])(drawn_set(draw, count))
    if chance < 0.65:
        return draw.choice([best, number])(drawn_number(draw, 0, 1))
    if chance < 0.7:
        return must()
    if chance < 0.78:
        return way(drawn_cell(draw, count), drawn_cell(draw, count))
    if chance < 0.87:
        return drawn_bound(draw, count)
    if chance < 0.95:
        return hardy(drawn_number(draw, 0, draw.choice([1, 3, 12])), drawn_set(draw, count))
    return most(drawn_number(draw, 0, 1), drawn_number(draw, 0, draw.choice([0, 5, 2000, 12000])))


def drawn_line(draw, many):
    """Calls in any order; now and then the first ones find no land."""
    calls = [drawn_land(draw)] if draw.random() < 0.9 else [drawn_call(draw, 3)]
    count = 3
    while len(calls) < many:
        if calls[-1][0] == 0:
            count = max(1, len(calls[-1][2][0]))
        calls.append(drawn_call(draw, count))
    return calls


class InterfaceTest(unittest.TestCase):
    def test_the_list_as_it_stands(self):
        line = [1, 0, 2, 1, 2, 7, 9, 2, 1, 2, 2, 8, 0, 1, 0, 0, 0, 0, 0, 0, 1, 3, 1, 0, 4, 2, 1, 0, 5, 0, 6, 1, 6, 9]
        self.assertEqual(answers(line), [
            1, -1,
            1, 0,
            1, 0,
            15, 0, 2, 1, 7, 9, 1, 2, 0, 1, 0, 0, 0, 0, 0, 0,
            1, 0,
            1, 16,
            1, 0,
            2, 9, 1,
            1, -3])

    def test_all_fourteen_calls_as_they_stand(self):
        line = [
            0, 3, 1, 3, 5, 100, 3, 3, 1, 0, 3,
            1,
            2, 8, 2, 1, 0, 0, 0, 0, 0, 0,
            3, 2, 2, 0,
            4, 3, 0, 1, 0,
            5, 2, 0, 2,
            6, 1,
            7, 0,
            8,
            9, 2, 2, 1,
            10, 0, 2,
            11, 2, 8, 5, 1, 0, 0, 0, 0, 0, 0, 3, 0, 0, 0,
            12, 1, 3, 0, 1, 2,
            13, 0, 7,
            0, 1, 2, 2, 8, 9, 2, 4, 4,
            2, 8, 0, 0, 1, 0, 0, 0, 0, 0,
            6, 0, 7, 1, 8, 9, 2, 1, 0, 10, 1, 1, 11, 1, 8, 0, 0, 9, 0, 0, 0, 0, 0, 2, 0, 0,
            12, 1, 3, 0, 1, 0, 13, 1, 8, 13, 2, 8, 1]
        self.assertEqual(answers(line), [
            1, 0,
            17, 0, 3, 1, 5, 100, 3, 1, 0, 3, 0, 0, 0, 0, 0, 0, 0, 0,
            1, 0,
            1, 1,
            1, 105,
            1, 2,
            4, 108, 0, 1, 2,
            1, 2,
            3, 0, 0, 2,
            3, 103, 1, 2,
            1, 108,
            2, 1, 6,
            1, 0,
            2, 7, 2,
            1, 0,
            1, 0,
            2, 8, 0, 1, 3, 1, 0, 3, 17, 0, 1, 1, 9, 1, 0,
            1, 1, 2, 8, 0, 1, -3, 15, 0, 1, 2, 8, 9, 4, 4, 0, 0, 1, 0, 0, 0, 0, 0])

    def test_one_call_alone(self):
        self.assertEqual(answers([1]), [1, -1])
        self.assertEqual(answers([0, 1, 1, 1, 0, 1, 0]), [1, 0])
        self.assertEqual(answers([8]), [1, -1])
        self.assertEqual(answers([11, 1, 0, 0]), [1, -1])

    def test_many_lines_against_the_plain_program(self):
        draw = Random(4)
        for each in range(120):
            calls = drawn_line(draw, draw.randint(1, 40))
            with self.subTest(calls=calls):
                self.assertEqual(parted(answers(flat(calls))), plain_answers(calls))

    def test_what_is_handed_in_is_not_changed(self):
        draw = Random(5)
        for each in range(100):
            line = flat(drawn_line(draw, 30))
            before = list(line)
            given = answers(line)
            self.assertEqual(line, before)
            self.assertEqual(answers(Unchanging(line)), given)

    def test_what_is_given_back_is_a_list_of_whole_numbers(self):
        place = land(2, 2, [1, 2, 3, 4], [1, 1, 2, 2])
        given = answers(flat([place, need([1] * 2 + [0] * 6), fits([0, 2]), fits([]), best(0), best(1), best(2), told(),
                              number(0), number(1), must(), corridor([0, 3]), way(0, 3), bound(2, [1] * 8, [0] * 4),
                              bound(1, [9] * 8, [0] * 4), hardy(1, [0, 1, 2, 3]), hardy(2, [0]), most(0, 5),
                              most(1, 0)]))
        self.assertIs(list, type(given))
        self.assertEqual({int}, {type(number) for number in given})

    def test_nothing_is_kept_from_one_time_to_the_next(self):
        place = land(2, 1, [3, 4], [1, 1])
        line = flat([told(), place, told(), need([2] + [0] * 7), best(0), number(0), must(), corridor([0, 1]),
                     way(0, 1), bound(1, [1] * 8, [0, 0]), hardy(1, [0, 1]), most(1, 5), told()])
        first = answers(line)
        self.assertEqual(answers(line), first)
        self.assertEqual(answers(flat([told()])), [1, -1])
        self.assertEqual(answers(flat([place, told()])), [1, 0, 15, 0, 2, 1, 3, 4, 1, 1] + [0] * 8)
        first.clear()
        self.assertNotEqual(answers(line), first)

    def test_what_is_given_back_may_be_changed(self):
        line = flat([land(1, 1, [3], [1]), told(), told()])
        given = answers(line)
        for place in range(len(given)):
            given[place] = 77
        self.assertEqual(answers(line), [1, 0] + ([13, 0, 1, 1, 3, 1] + [0] * 8) * 2)

    def test_nothing_is_printed(self):
        out = io.StringIO()
        err = io.StringIO()
        with contextlib.redirect_stdout(out), contextlib.redirect_stderr(err):
            answers(flat([told(), land(1, 1, [3], [1]), told(), best(0), best(9), number(1), must(), corridor([0]),
                          way(0, 0), bound(1, [0] * 8, [0]), hardy(0, []), most(1, 3), most(9, 9)]))
        self.assertEqual((out.getvalue(), err.getvalue()), ("", ""))

    def test_the_longest_line(self):
        place = land(4, 3, list(range(12)), [255] * 12)
        calls = [place, need([6] * 8)] + [best(1)] * 200 + [pieces([0] * 30), pieces([0, 11] * 12)] * 99
        self.assertEqual(len(calls), 400)
        found = parted(answers(flat(calls)))
        self.assertEqual(found[:2], [[0], [0]])
        self.assertEqual(found[2:202], [[15, 0, 1, 2, 3, 4, 5]] * 200)
        self.assertEqual(found[202:], [[-4], [2]] * 99)

    def test_the_longest_line_of_each_of_the_later_calls(self):
        place = land(3, 4, list(range(12)), [255] * 12)
        begin = [place, need([6] * 8)]
        for call in (number(1), must(), corridor([0, 11]), way(0, 11), bound(1, [1] * 8, [8] * 12),
                     hardy(6, list(range(12)) * 2), most(1, 12000)):
            with self.subTest(call=call):
                expected = plain_answers(begin + [call])[-1]
                self.assertEqual(parted(answers(flat(begin + [call] * 398)))[2:], [expected] * 398)


if __name__ == "__main__":
    unittest.main()
