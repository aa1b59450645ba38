"""Reserves: answers the calls of one line. Within, a set of cells is its number: the sum of 2^c over its cells c."""

KINDS = 8
MOST_SIDE = 12
MOST_CELLS = 12
MOST_PRICE = 1000
MOST_HELD = 255
MOST_NEED = 12
MOST_TOLD = 24
MOST_DIVISOR = 1000
MOST_WORTH = 1000000
MOST_REBATE = 10000000
MOST_LOST = 12
MOST_SPENT = 12000

LAND = 0

NO_LAND = -1
NUMBER_OUT = -3
LIST_OUT = -4
NONE_FITS = -6


class Reader:
    """Takes the numbers of a line one behind another; the line itself stays as it is."""

    def __init__(self, line):
        self.line = line
        self.place = 0

    def has_more(self):
        return self.place < len(self.line)

    def take_number(self):
        number = self.line[self.place]
        self.place = self.place + 1
        return number

    def take_numbers(self, many):
        begin = self.place
        self.place = begin + many
        return self.line[begin:self.place]

    def take_list(self):
        return self.take_numbers(self.take_number())


class Reserve:
    """What is held along a line: the land, for each cell the set of its neighbours, and the needs."""

    def __init__(self):
        self.width = 0
        self.height = 0
        self.prices = []
        self.kinds = []
        self.beside = []
        self.needs = [0] * KINDS

    def has_land(self):
        return self.width > 0

    def hold_land(self, width, height, prices, kinds):
        self.width = width
        self.height = height
        self.prices = prices
        self.kinds = kinds
        self.beside = [set_of(neighbours(width, height, cell)) for cell in range(width * height)]
        self.needs = [0] * KINDS


def set_of(cells):
    """The number of the set of these cells, some perhaps told twice."""
    members = 0
    for cell in cells:
        members = members | (1 << cell)
    return members


def cells_of(members):
    """The cells of a set, going up."""
    return [cell for cell in range(MOST_CELLS) if ((members >> cell) & 1) == 1]


def neighbours(width, height, cell):
    near = []
    if cell >= width:
        near.append(cell - width)
    if cell % width > 0:
        near.append(cell - 1)
    if cell % width < width - 1:
        near.append(cell + 1)
    if cell + width < width * height:
        near.append(cell + width)
    return near


def first_piece(beside, members):
    """The piece that has the set's least cell; of the empty set, the empty set."""
    cells = cells_of(members)
    piece = set_of(cells[:1])
    grows = True
    while grows:
        before = piece
        for cell in cells:
            if (beside[cell] & piece) != 0:
                piece = piece | (1 << cell)
        grows = piece != before
    return piece


def count_pieces(beside, members):
    many = 0
    left = members
    while left != 0:
        # A piece has no neighbours in the rest, so the rest's pieces stay as they are without it.
        left = left - first_piece(beside, left)
        many = many + 1
    return many


def sets_in_one_piece(beside):
    """All sets in one piece, in order."""
    many = 1 << len(beside)
    joined = [False] * many
    joined[0] = True
    for cell in range(len(beside)):
        joined[1 << cell] = True
    # A set of two or more cells in one piece has a cell without which it still is in one piece (one that is
    # farthest from another), and that lesser set comes earlier in order: so adding neighbours reaches them all.
    for members in range(many):
        if joined[members]:
            for cell, near in enumerate(beside):
                if (near & members) != 0:
                    joined[members | (1 << cell)] = True
    return [members for members in range(many) if joined[members]]


def asked_sets(reserve, one):
    """All sets, in order; if one is 1, all in one piece."""
    if one == 1:
        return sets_in_one_piece(reserve.beside)
    return list(range(1 << len(reserve.prices)))


def holders(kinds, kind):
    """For each cell 1 if it holds the kind, else 0."""
    return [(held >> kind) & 1 for held in kinds]


def sum_over(worths, members):
    """The sum of the worths of a set's cells."""
    return sum([worths[cell] for cell in cells_of(members)])


def sums_over_all(worths):
    """For each set of cells, in order, the sum of its cells' worths."""
    # Adding them up set by set would make a line of many calls slow.
    sums = [0]
    for worth in worths:
        sums = sums + [before + worth for before in sums]
    return sums


def fits_without(reserve, lost, members):
    """Whether the set fits whichever of its cells, up to as many as may be lost, are left out."""
    for kind, need in enumerate(reserve.needs):
        # For a single kind it is worst to lose cells that all hold it, and no kind's need hangs on another's.
        often = sum_over(holders(reserve.kinds, kind), members)
        if max(often - lost, 0) < need:
            return False
    return True


def fitting_sets(reserve, one):
    """All sets that fit, in order; if one is 1, those in one piece."""
    fitting = asked_sets(reserve, one)
    for kind, need in enumerate(reserve.needs):
        often = sums_over_all(holders(reserve.kinds, kind))
        fitting = [members for members in fitting if often[members] >= need]
    return fitting


def first_cheapest(reserve, sets):
    """Of the sets, which stand in order, the first of those with the least price."""
    prices = sums_over_all(reserve.prices)
    best = sets[0]
    for members in sets:
        if prices[members] < prices[best]:
            best = members
    return best


def price_and_cells(reserve, members):
    return [sum_over(reserve.prices, members)] + cells_of(members)


def least_way(reserve, begin, end):
    """The least price of a row of neighbours from one cell to the other."""
    prices = reserve.prices
    # No cheapest way is dearer than the whole land: so this is never too little for a cell that is not reached yet.
    costs = [sum(prices)] * len(prices)
    costs[begin] = prices[begin]
    # A cheapest way needs no cell twice: so as many rounds as there are cells find it.
    for each in range(len(prices)):
        for cell, near in enumerate(reserve.beside):
            for other in cells_of(near):
                costs[cell] = min(costs[cell], costs[other] + prices[cell])
    return costs[end]


def is_proof(reserve, divisor, worths, rebates):
    """Whether each cell's kinds are worth at most its rebate and the divisor times its price, added."""
    for cell, held in enumerate(reserve.kinds):
        # A number for kinds has its bits as the number of a set has.
        if sum_over(worths, held) > rebates[cell] + divisor * reserve.prices[cell]:
            return False
    return True


def bound_of(reserve, divisor, worths, rebates):
    needed = sum([worth * need for worth, need in zip(worths, reserve.needs)])
    over = max(needed - sum(rebates), 0)
    return (over + divisor - 1) // divisor


def kept_kinds(reserve, sets):
    """For each of the sets, how many of the eight kinds it holds at least as often as they are needed."""
    kept = [0] * len(sets)
    for kind, need in enumerate(reserve.needs):
        often = sums_over_all(holders(reserve.kinds, kind))
        kept = [many + 1 if often[members] >= need else many for many, members in zip(kept, sets)]
    return kept


def all_within(numbers, least, most):
    return all([least <= number <= most for number in numbers])


def is_list_of(numbers, length, most):
    return len(numbers) == length and all_within(numbers, 0, most)


def is_told_set(reserve, cells):
    return len(cells) <= MOST_TOLD and all_within(cells, 0, len(reserve.prices) - 1)


def call_land(reserve, numbers, lists):
    width = numbers[0]
    height = numbers[1]
    if not all_within(numbers, 1, MOST_SIDE) or width * height > MOST_CELLS:
        return [NUMBER_OUT]
    if not is_list_of(lists[0], width * height, MOST_PRICE) or not is_list_of(lists[1], width * height, MOST_HELD):
        return [LIST_OUT]
    reserve.hold_land(width, height, lists[0], lists[1])
    return [0]


def call_told(reserve, numbers, lists):
    return [0, reserve.width, reserve.height] + reserve.prices + reserve.kinds + reserve.needs


def call_need(reserve, numbers, lists):
    if not is_list_of(lists[0], KINDS, MOST_NEED):
        return [LIST_OUT]
    reserve.needs = lists[0]
    return [0]


def call_fits(reserve, numbers, lists):
    if not is_told_set(reserve, lists[0]):
        return [LIST_OUT]
    return [1 if fits_without(reserve, 0, set_of(lists[0])) else 0]


def call_price(reserve, numbers, lists):
    if not is_told_set(reserve, lists[0]):
        return [LIST_OUT]
    return [sum_over(reserve.prices, set_of(lists[0]))]


def call_pieces(reserve, numbers, lists):
    if not is_told_set(reserve, lists[0]):
        return [LIST_OUT]
    return [count_pieces(reserve.beside, set_of(lists[0]))]


def call_best(reserve, numbers, lists):
    if not all_within(numbers, 0, 1):
        return [NUMBER_OUT]
    # Where some set fits the whole land does, which is in one piece: so with one, too, none is left only if none fits.
    fitting = fitting_sets(reserve, numbers[0])
    if len(fitting) == 0:
        return [NONE_FITS]
    return price_and_cells(reserve, first_cheapest(reserve, fitting))


def call_number(reserve, numbers, lists):
    if not all_within(numbers, 0, 1):
        return [NUMBER_OUT]
    return [len(fitting_sets(reserve, numbers[0]))]


def call_must(reserve, numbers, lists):
    fitting = fitting_sets(reserve, 0)
    if len(fitting) == 0:
        return [NONE_FITS]
    common = fitting[0]
    for members in fitting:
        common = common & members
    return [0] + cells_of(common)


def call_corridor(reserve, numbers, lists):
    if not is_told_set(reserve, lists[0]):
        return [LIST_OUT]
    ends = set_of(lists[0])
    corridors = [members for members in sets_in_one_piece(reserve.beside) if (members & ends) == ends]
    return price_and_cells(reserve, first_cheapest(reserve, corridors))


def call_way(reserve, numbers, lists):
    if not all_within(numbers, 0, len(reserve.prices) - 1):
        return [NUMBER_OUT]
    return [least_way(reserve, numbers[0], numbers[1])]


def call_bound(reserve, numbers, lists):
    divisor = numbers[0]
    worths = lists[0]
    rebates = lists[1]
    if not all_within(numbers, 1, MOST_DIVISOR):
        return [NUMBER_OUT]
    if not is_list_of(worths, KINDS, MOST_WORTH) or not is_list_of(rebates, len(reserve.prices), MOST_REBATE):
        return [LIST_OUT]
    if not is_proof(reserve, divisor, worths, rebates):
        return [0]
    return [1, bound_of(reserve, divisor, worths, rebates)]


def call_hardy(reserve, numbers, lists):
    if not all_within(numbers, 0, MOST_LOST):
        return [NUMBER_OUT]
    if not is_told_set(reserve, lists[0]):
        return [LIST_OUT]
    return [1 if fits_without(reserve, numbers[0], set_of(lists[0])) else 0]


def call_most(reserve, numbers, lists):
    if not all_within(numbers[:1], 0, 1) or not all_within(numbers[1:], 0, MOST_SPENT):
        return [NUMBER_OUT]
    prices = sums_over_all(reserve.prices)
    paid = [members for members in asked_sets(reserve, numbers[0]) if prices[members] <= numbers[1]]
    kept = kept_kinds(reserve, paid)
    # The empty set costs nothing, so there is always one; the first place of the greatest is the first in order.
    most = max(kept)
    return [most] + cells_of(paid[kept.index(most)])


# By a call's number: how many whole numbers it has, how many lists, and what answers it.
CALLS = {
    0: (2, 2, call_land),
    1: (0, 0, call_told),
    2: (0, 1, call_need),
    3: (0, 1, call_fits),
    4: (0, 1, call_price),
    5: (0, 1, call_pieces),
    6: (1, 0, call_best),
    7: (1, 0, call_number),
    8: (0, 0, call_must),
    9: (0, 1, call_corridor),
    10: (2, 0, call_way),
    11: (1, 2, call_bound),
    12: (1, 1, call_hardy),
    13: (2, 0, call_most),
}


def answer_next(reserve, reader):
    """Takes one call whole, also where it is refused, so that the next one is found behind it."""
    call = reader.take_number()
    form = CALLS[call]
    numbers = reader.take_numbers(form[0])
    lists = [reader.take_list() for each in range(form[1])]
    if call != LAND and not reserve.has_land():
        return [NO_LAND]
    act = form[2]
    return act(reserve, numbers, lists)


def answers(calls):
    reader = Reader(calls)
    reserve = Reserve()
    answered = []
    while reader.has_more():
        answer = answer_next(reserve, reader)
        answered.append(len(answer))
        answered.extend(answer)
    return answered
