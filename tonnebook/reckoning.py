"""What a month's moves come to, and the royalty on what was sold."""

KILOGRAMS_A_TONNE = 1000


def moves_of(books, month):
    """The moves of the records that stand in a month."""
    return [record.move for record in books.records if record.month == month and record.move is not None]


def way(move, kind):
    """1 for a move into a kind, -1 for one out of it, 0 for one that does neither or both."""
    into = 1 if move.target.kind == kind else 0
    out = 1 if move.source.kind == kind else 0
    return into - out


def net_into(books, month, kind):
    """What went into a kind less what went out of it in a month: kilograms, then micrograms of each metal."""
    net = [0] * (1 + len(books.metals))
    for move in moves_of(books, month):
        sign = way(move, kind)
        net = [total + sign * part for total, part in zip(net, move.amounts)]
    return net


def royalty_on(kilograms, scale):
    """The cents on so many kilograms by a scale, in which each step's beginning stands before its cents a tonne."""
    starts = scale[0::2]
    ends = starts[1:] + [kilograms]
    total = 0
    for start, end, cents in zip(starts, ends, scale[1::2]):
        # A step that the kilograms don't come up to counts nothing, so neither do kilograms below 0.
        total += max(0, min(end, kilograms) - start) * cents
    return total // KILOGRAMS_A_TONNE
