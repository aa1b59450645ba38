"""Calls as the tests write them: (the call's number, its whole numbers, its lists)."""

from landreserves.land import answers

LEAST = -9223372036854775808
GREATEST = 9223372036854775807


def land(w, h, prices, kinds):
    return (0, [w, h], [prices, kinds])


def told():
    return (1, [], [])


def need(needs):
    return (2, [], [needs])


def fits(cells):
    return (3, [], [cells])


def price(cells):
    return (4, [], [cells])


def pieces(cells):
    return (5, [], [cells])


def best(one):
    return (6, [one], [])


def number(one):
    return (7, [one], [])


def must():
    return (8, [], [])


def corridor(cells):
    return (9, [], [cells])


def way(a, b):
    return (10, [a, b], [])


def bound(d, worths, rebates):
    return (11, [d], [worths, rebates])


def hardy(r, cells):
    return (12, [r], [cells])


def most(one, p):
    return (13, [one, p], [])


def flat(calls):
    line = []
    for call, numbers, lists in calls:
        line.append(call)
        line.extend(numbers)
        for told_list in lists:
            line.append(len(told_list))
            line.extend(told_list)
    return line


def parted(given):
    """The answers one by one: each a list without the count before it."""
    found = []
    place = 0
    while place < len(given):
        many = given[place]
        answer = given[place + 1:place + 1 + many]
        if many < 1 or len(answer) != many:
            raise ValueError(f"a count that does not hold at {place}: {given}")
        found.append(answer)
        place += 1 + many
    return found


def ask(*calls):
    return parted(answers(flat(calls)))


def last(*calls):
    return ask(*calls)[-1]
