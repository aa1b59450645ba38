"""The document's words once more, as plainly as can be: every set is looked at, as a Python set of cells."""

from itertools import combinations


def are_neighbours(w, a, b):
    row_a, column_a = divmod(a, w)
    row_b, column_b = divmod(b, w)
    return abs(row_a - row_b) + abs(column_a - column_b) == 1


def pieces_of(w, cells):
    pieces = []
    for cell in cells:
        joined = {cell}
        apart = []
        for piece in pieces:
            if any(are_neighbours(w, cell, other) for other in piece):
                joined |= piece
            else:
                apart.append(piece)
        pieces = apart + [joined]
    return pieces


def number_of(cells):
    return sum(2 ** cell for cell in cells)


def all_sets(count):
    for size in range(count + 1):
        yield from combinations(range(count), size)


def does_fit(kinds, needs, cells):
    for kind in range(8):
        if sum(1 for cell in cells if kinds[cell] // 2 ** kind % 2 == 1) < needs[kind]:
            return False
    return True


def price_of(prices, cells):
    return sum(prices[cell] for cell in cells)


def best_set(w, prices, kinds, needs, one):
    """None where no set fits."""
    found = None
    for cells in all_sets(len(prices)):
        if does_fit(kinds, needs, cells) and (one == 0 or len(pieces_of(w, cells)) <= 1):
            rank = (price_of(prices, cells), number_of(cells), cells)
            if found is None or rank < found:
                found = rank
    return None if found is None else found[2]


class Plain:
    def __init__(self):
        self.size = None
        self.needs = [0] * 8

    def answer(self, call):
        number, numbers, lists = call
        if number == 0:
            return self.land(*numbers, *lists)
        if self.size is None:
            return [-1]
        if number == 1:
            return [0, *self.size, *self.prices, *self.kinds, *self.needs]
        if number == 2:
            return self.need(*lists)
        if number == 6:
            return self.best(*numbers)
        return self.ask_set(number, *lists)

    def land(self, w, h, prices, kinds):
        if w < 1 or w > 12 or h < 1 or h > 12 or w * h > 12:
            return [-3]
        if len(prices) != w * h or any(number < 0 or number > 1000 for number in prices):
            return [-4]
        if len(kinds) != w * h or any(number < 0 or number > 255 for number in kinds):
            return [-4]
        self.size = (w, h)
        self.prices = list(prices)
        self.kinds = list(kinds)
        self.needs = [0] * 8
        return [0]

    def need(self, needs):
        if len(needs) != 8 or any(number < 0 or number > 12 for number in needs):
            return [-4]
        self.needs = list(needs)
        return [0]

    def ask_set(self, number, told):
        if len(told) > 24 or any(cell < 0 or cell >= len(self.prices) for cell in told):
            return [-4]
        cells = set(told)
        if number == 3:
            return [1 if does_fit(self.kinds, self.needs, cells) else 0]
        if number == 4:
            return [price_of(self.prices, cells)]
        return [len(pieces_of(self.size[0], cells))]

    def best(self, one):
        if one != 0 and one != 1:
            return [-3]
        cells = best_set(self.size[0], self.prices, self.kinds, self.needs, one)
        return [-6] if cells is None else [price_of(self.prices, cells), *cells]


def plain_answers(calls):
    plain = Plain()
    return [plain.answer(call) for call in calls]
