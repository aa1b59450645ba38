"""Lands and needs that are drawn, the same at each run."""

SHAPES = [(w, h) for w in range(1, 13) for h in range(1, 13) if w * h <= 12]


def drawn_land(draw, w, h):
    """A land and needs such that ties, free cells and needs that can't be met all come up."""
    count = w * h
    dearest = draw.choice([0, 1, 3, 20, 1000])
    prices = [draw.randint(0, dearest) for cell in range(count)]
    kinds = [draw.randint(0, 255) & draw.choice([255, 3, 128, 17]) for cell in range(count)]
    needs = [0] * 8
    for kind in draw.sample(range(8), draw.randint(0, 8)):
        held = sum(held >> kind & 1 for held in kinds)
        needs[kind] = draw.randint(0, min(held + draw.choice([0, 0, 0, 1]), 12))
    return prices, kinds, needs
