"""The document's words once more, as plainly as can be: every set is looked at, as a tuple of cells going up."""

from fractions import Fraction
from functools import lru_cache
from itertools import combinations
from math import ceil


def are_neighbours(w, a, b):
    row_a, column_a = divmod(a, w)
    row_b, column_b = divmod(b, w)
    return abs(row_a - row_b) + abs(column_a - column_b) == 1


def pieces_of(w, cells):
    pieces = []
    for cell in cells:
        joined = {cell}
        apart = []
        for piece in pieces:
            if any(are_neighbours(w, cell, other) for other in piece):
                joined |= piece
            else:
                apart.append(piece)
        pieces = apart + [joined]
    return pieces


@lru_cache(maxsize=None)
def in_one_piece(w, cells):
    return len(pieces_of(w, cells)) <= 1


def number_of(cells):
    return sum(2 ** cell for cell in cells)


def all_sets(count):
    for size in range(count + 1):
        yield from combinations(range(count), size)


def asked_sets(w, count, one):
    return [cells for cells in all_sets(count) if one == 0 or in_one_piece(w, cells)]


def holds(kinds, cell, kind):
    return kinds[cell] // 2 ** kind % 2 == 1


def keeps(kinds, needs, cells, kind):
    return sum(1 for cell in cells if holds(kinds, cell, kind)) >= needs[kind]


def does_fit(kinds, needs, cells):
    return all(keeps(kinds, needs, cells, kind) for kind in range(8))


def price_of(prices, cells):
    return sum(prices[cell] for cell in cells)


def fitting_sets(w, kinds, needs, one):
    return [cells for cells in asked_sets(w, len(kinds), one) if does_fit(kinds, needs, cells)]


def cheapest(prices, sets):
    """None where there is none."""
    return min(sets, key=lambda cells: (price_of(prices, cells), number_of(cells)), default=None)


def best_set(w, prices, kinds, needs, one):
    """None where no set fits."""
    return cheapest(prices, fitting_sets(w, kinds, needs, one))


def must_cells(w, kinds, needs):
    """None where no set fits."""
    fitting = fitting_sets(w, kinds, needs, 0)
    if not fitting:
        return None
    return [cell for cell in range(len(kinds)) if all(cell in cells for cells in fitting)]


def corridor_set(w, prices, ends):
    return cheapest(prices, [cells for cells in asked_sets(w, len(prices), 1) if set(ends) <= set(cells)])


def rows_between(w, count, row, end):
    """Every row of neighbours that begins with this one, leads to the end and has no cell twice."""
    if row[-1] == end:
        yield row
        return
    for cell in range(count):
        if cell not in row and are_neighbours(w, row[-1], cell):
            yield from rows_between(w, count, row + [cell], end)


def way_price(w, prices, a, b):
    return min(price_of(prices, row) for row in rows_between(w, len(prices), [a], b))


def is_accepted(prices, kinds, d, worths, rebates):
    for cell in range(len(prices)):
        if sum(worths[kind] for kind in range(8) if holds(kinds, cell, kind)) > rebates[cell] + d * prices[cell]:
            return False
    return True


def bound_price(needs, d, worths, rebates):
    worth_of_needs = sum(worths[kind] * needs[kind] for kind in range(8))
    return ceil(Fraction(max(worth_of_needs - sum(rebates), 0), d))


def is_hardy(kinds, needs, r, cells):
    for many in range(min(r, len(cells)) + 1):
        for lost in combinations(cells, many):
            if not does_fit(kinds, needs, set(cells) - set(lost)):
                return False
    return True


def count_kept(kinds, needs, cells):
    return sum(1 for kind in range(8) if keeps(kinds, needs, cells, kind))


def most_set(w, prices, kinds, needs, one, p):
    sets = [cells for cells in asked_sets(w, len(prices), one) if price_of(prices, cells) <= p]
    return min(sets, key=lambda cells: (-count_kept(kinds, needs, cells), number_of(cells)))


def is_out(numbers, least, greatest):
    return any(number < least or number > greatest for number in numbers)


class Plain:
    def __init__(self):
        self.size = None
        self.needs = [0] * 8

    def answer(self, call):
        number, numbers, lists = call
        if number != 0 and self.size is None:
            return [-1]
        names = ["land", "told", "need", "fits", "price", "pieces", "best",
                 "number", "must", "corridor", "way", "bound", "hardy", "most"]
        return getattr(self, names[number])(*numbers, *lists)

    def is_no_set(self, told):
        return len(told) > 24 or is_out(told, 0, len(self.prices) - 1)

    def land(self, w, h, prices, kinds):
        if is_out([w, h], 1, 12) or w * h > 12:
            return [-3]
        if len(prices) != w * h or is_out(prices, 0, 1000):
            return [-4]
        if len(kinds) != w * h or is_out(kinds, 0, 255):
            return [-4]
        self.size = (w, h)
        self.prices = list(prices)
        self.kinds = list(kinds)
        self.needs = [0] * 8
        return [0]

    def told(self):
        return [0, *self.size, *self.prices, *self.kinds, *self.needs]

    def need(self, needs):
        if len(needs) != 8 or is_out(needs, 0, 12):
            return [-4]
        self.needs = list(needs)
        return [0]

    def fits(self, told):
        if self.is_no_set(told):
            return [-4]
        return [1 if does_fit(self.kinds, self.needs, set(told)) else 0]

    def price(self, told):
        if self.is_no_set(told):
            return [-4]
        return [price_of(self.prices, set(told))]

    def pieces(self, told):
        if self.is_no_set(told):
            return [-4]
        return [len(pieces_of(self.size[0], set(told)))]

    def best(self, one):
        if is_out([one], 0, 1):
            return [-3]
        cells = best_set(self.size[0], self.prices, self.kinds, self.needs, one)
        return [-6] if cells is None else [price_of(self.prices, cells), *cells]

    def number(self, one):
        if is_out([one], 0, 1):
            return [-3]
        return [len(fitting_sets(self.size[0], self.kinds, self.needs, one))]

    def must(self):
        cells = must_cells(self.size[0], self.kinds, self.needs)
        return [-6] if cells is None else [0, *cells]

    def corridor(self, told):
        if self.is_no_set(told):
            return [-4]
        cells = corridor_set(self.size[0], self.prices, told)
        return [price_of(self.prices, cells), *cells]

    def way(self, a, b):
        if is_out([a, b], 0, len(self.prices) - 1):
            return [-3]
        return [way_price(self.size[0], self.prices, a, b)]

    def bound(self, d, worths, rebates):
        if is_out([d], 1, 1000):
            return [-3]
        if len(worths) != 8 or is_out(worths, 0, 1000000):
            return [-4]
        if len(rebates) != len(self.prices) or is_out(rebates, 0, 10000000):
            return [-4]
        if not is_accepted(self.prices, self.kinds, d, worths, rebates):
            return [0]
        return [1, bound_price(self.needs, d, worths, rebates)]

    def hardy(self, r, told):
        if is_out([r], 0, 12):
            return [-3]
        if self.is_no_set(told):
            return [-4]
        return [1 if is_hardy(self.kinds, self.needs, r, sorted(set(told))) else 0]

    def most(self, one, p):
        if is_out([one], 0, 1) or is_out([p], 0, 12000):
            return [-3]
        cells = most_set(self.size[0], self.prices, self.kinds, self.needs, one, p)
        return [count_kept(self.kinds, self.needs, cells), *cells]


def plain_answers(calls):
    plain = Plain()
    return [plain.answer(call) for call in calls]
