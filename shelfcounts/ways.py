"""Ways along ties, either way about, from spot to spot: a spot is a piece, or None, the outside."""


def row_of_tie(led, tie):
    """The row (tie, out, into) of this tie, whatever it is; None where it is none of these."""
    for row in led:
        if row[0] == tie:
            return row
    return None


def without_ties(led, gone):
    """The rows but those of the ties that are gone."""
    return [row for row in led if row[0] not in gone]


def ways_from(led, start):
    """A dict from all spots that hang together with this one, nearer ones first, to lists of steps that lead there."""
    ways = {start: []}
    reached = [start]
    at = 0
    while at < len(reached):
        spot = reached[at]
        for step, end in steps_from(led, spot):
            if end not in ways:
                ways[end] = ways[spot] + [step]
                reached.append(end)
        at += 1
    return ways


def steps_from(led, spot):
    """The tuples (step, end) of all steps (tie, forth) that begin at the spot."""
    forth = [((tie, True), into) for tie, out, into in led if out == spot]
    return forth + [((tie, False), out) for tie, out, into in led if into == spot]


def ring_through(led, row):
    """A ring through the tie of this row, one of these; None where there is none."""
    tie, out, into = row
    ways = ways_from(without_ties(led, [tie]), into)
    if out not in ways:
        return None
    return [(tie, True)] + ways[out]


def side_beside(led, row):
    """The pieces, rising, on that side of the tie that hasn't the outside, where no ring goes through the tie."""
    tie, out, into = row
    rest = without_ties(led, [tie])
    ways = ways_from(rest, into)
    if None in ways:
        ways = ways_from(rest, out)
    return sorted(ways)
