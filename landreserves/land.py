"""Reserves: answers the calls of one line. Within, a set of cells is its number: the sum of 2^c over its cells c."""

KINDS = 8
MOST_SIDE = 12
MOST_CELLS = 12
MOST_PRICE = 1000
MOST_HELD = 255
MOST_NEED = 12
MOST_TOLD = 24

LAND = 0

NO_LAND = -1
NUMBER_OUT = -3
LIST_OUT = -4
NONE_FITS = -6


class Reader:
    """Takes the numbers of a line one behind another; the line itself stays as it is."""

    def __init__(self, line):
        self.line = line
        self.place = 0

    def has_more(self):
        return self.place < len(self.line)

    def take_number(self):
        number = self.line[self.place]
        self.place = self.place + 1
        return number

    def take_numbers(self, many):
        begin = self.place
        self.place = begin + many
        return self.line[begin:self.place]

    def take_list(self):
        return self.take_numbers(self.take_number())


class Reserve:
    """What is held along a line: the land and the needs."""

    def __init__(self):
        self.width = 0
        self.height = 0
        self.prices = []
        self.kinds = []
        self.beside = []
        self.needs = [0] * KINDS

    def has_land(self):
        return self.width > 0

    def hold_land(self, width, height, prices, kinds):
        self.width = width
        self.height = height
        self.prices = prices
        self.kinds = kinds
        self.beside = neighbour_sets(width, height)
        self.needs = [0] * KINDS

    def hold_needs(self, needs):
        self.needs = needs


def set_of(cells):
    """The number of the set of these cells, some perhaps told twice."""
    members = 0
    for cell in cells:
        members = members | (1 << cell)
    return members


def cells_of(members):
    """The cells of a set, going up."""
    return [cell for cell in range(MOST_CELLS) if ((members >> cell) & 1) == 1]


def neighbours(width, height, cell):
    near = []
    if cell >= width:
        near.append(cell - width)
    if cell % width > 0:
        near.append(cell - 1)
    if cell % width < width - 1:
        near.append(cell + 1)
    if cell + width < width * height:
        near.append(cell + width)
    return near


def neighbour_sets(width, height):
    """For each cell, the set of its neighbours."""
    return [set_of(neighbours(width, height, cell)) for cell in range(width * height)]


def first_piece(beside, members):
    """The piece that has the set's least cell; of the empty set, the empty set."""
    cells = cells_of(members)
    piece = set_of(cells[:1])
    grows = True
    while grows:
        before = piece
        for cell in cells:
            if (beside[cell] & piece) != 0:
                piece = piece | (1 << cell)
        grows = piece != before
    return piece


def in_one_piece(beside, members):
    return first_piece(beside, members) == members


def count_pieces(beside, members):
    many = 0
    left = members
    while left != 0:
        # A piece has no neighbours in the rest, so the rest's pieces stay as they are without it.
        left = left - first_piece(beside, left)
        many = many + 1
    return many


def holders(kinds, kind):
    """For each cell 1 if it holds the kind, else 0."""
    return [(held >> kind) & 1 for held in kinds]


def sum_over(worths, members):
    """The sum of the worths of a set's cells."""
    return sum([worths[cell] for cell in cells_of(members)])


def sums_over_all(worths):
    """For each set of cells, in order, the sum of its cells' worths."""
    # Adding them up set by set would make a line of many calls slow.
    sums = [0]
    for worth in worths:
        sums = sums + [before + worth for before in sums]
    return sums


def fits(reserve, members):
    for kind, need in enumerate(reserve.needs):
        if sum_over(holders(reserve.kinds, kind), members) < need:
            return False
    return True


def fitting_sets(reserve):
    """All sets that fit, in order."""
    fitting = list(range(1 << len(reserve.prices)))
    for kind, need in enumerate(reserve.needs):
        often = sums_over_all(holders(reserve.kinds, kind))
        fitting = [members for members in fitting if often[members] >= need]
    return fitting


def cheapest(reserve, one, fitting):
    """Of the sets handed in, in order, the first of those with the least price; if one is 1, of those in one piece."""
    prices = sums_over_all(reserve.prices)
    best = None
    for members in fitting:
        # The price is looked at first, as looking for pieces takes longest.
        if best is None or prices[members] < prices[best]:
            if one == 0 or in_one_piece(reserve.beside, members):
                best = members
    return best


def all_within(numbers, least, most):
    return all([least <= number <= most for number in numbers])


def is_list_of(numbers, length, most):
    return len(numbers) == length and all_within(numbers, 0, most)


def is_told_set(reserve, cells):
    return len(cells) <= MOST_TOLD and all_within(cells, 0, len(reserve.prices) - 1)


def call_land(reserve, numbers, lists):
    width = numbers[0]
    height = numbers[1]
    if not all_within(numbers, 1, MOST_SIDE) or width * height > MOST_CELLS:
        return [NUMBER_OUT]
    if not is_list_of(lists[0], width * height, MOST_PRICE):
        return [LIST_OUT]
    if not is_list_of(lists[1], width * height, MOST_HELD):
        return [LIST_OUT]
    reserve.hold_land(width, height, lists[0], lists[1])
    return [0]


def call_told(reserve, numbers, lists):
    return [0, reserve.width, reserve.height] + reserve.prices + reserve.kinds + reserve.needs


def call_need(reserve, numbers, lists):
    if not is_list_of(lists[0], KINDS, MOST_NEED):
        return [LIST_OUT]
    reserve.hold_needs(lists[0])
    return [0]


def call_fits(reserve, numbers, lists):
    if not is_told_set(reserve, lists[0]):
        return [LIST_OUT]
    return [1 if fits(reserve, set_of(lists[0])) else 0]


def call_price(reserve, numbers, lists):
    if not is_told_set(reserve, lists[0]):
        return [LIST_OUT]
    return [sum_over(reserve.prices, set_of(lists[0]))]


def call_pieces(reserve, numbers, lists):
    if not is_told_set(reserve, lists[0]):
        return [LIST_OUT]
    return [count_pieces(reserve.beside, set_of(lists[0]))]


def call_best(reserve, numbers, lists):
    one = numbers[0]
    if not all_within(numbers, 0, 1):
        return [NUMBER_OUT]
    fitting = fitting_sets(reserve)
    if len(fitting) == 0:
        return [NONE_FITS]
    # Where some set fits the whole land does, which is in one piece: so there is a cheapest.
    best = cheapest(reserve, one, fitting)
    return [sum_over(reserve.prices, best)] + cells_of(best)


# By a call's number: how many whole numbers it has, how many lists, and what answers it.
CALLS = {
    0: (2, 2, call_land),
    1: (0, 0, call_told),
    2: (0, 1, call_need),
    3: (0, 1, call_fits),
    4: (0, 1, call_price),
    5: (0, 1, call_pieces),
    6: (1, 0, call_best),
}


def answer_next(reserve, reader):
    """Takes one call whole, also where it is refused, so that the next one is found behind it."""
    call = reader.take_number()
    form = CALLS[call]
    numbers = reader.take_numbers(form[0])
    lists = []
    for each in range(form[1]):
        lists.append(reader.take_list())
    if call != LAND and not reserve.has_land():
        return [NO_LAND]
    act = form[2]
    return act(reserve, numbers, lists)


def answers(calls):
    reader = Reader(calls)
    reserve = Reserve()
    answered = []
    while reader.has_more():
        answer = answer_next(reserve, reader)
        answered.append(len(answer))
        answered.extend(answer)
    return answered
