"""Sums of unknown numbers that come to 0, and ratios in lowest terms."""

from math import gcd


def lowest(above, below):
    """A ratio in lowest terms, the number below being positive."""
    shared = gcd(above, below)
    return above // shared, below // shared


def last_row(rows, last):
    """What the row of a last unknown comes to when all other unknowns that have a row are cleared out of it.

    A row is a dict of unknowns, each with how often it is counted in a sum that is 0. In its own row each
    unknown that is cleared is counted a positive number of times, also when others have been cleared.
    """
    left = {unknown: rows[unknown] for unknown in rows}
    for unknown in sorted([one for one in rows if one != last], reverse=True):
        row = left.pop(unknown)
        for other in list(left):
            if unknown in left[other]:
                left[other] = cleared(left[other], row, unknown)
    return left[last]


def cleared(row, other, unknown):
    """A row, so often and other so often that an unknown of both doesn't stand in it any more."""
    times = other[unknown]
    less = row[unknown]
    found = {one: times * many for one, many in row.items()}
    for one, many in other.items():
        found[one] = found.get(one, 0) - less * many
    return reduced({one: many for one, many in found.items() if many != 0})


def reduced(row):
    """A row with the least whole numbers."""
    shared = 0
    for many in row.values():
        shared = gcd(shared, many)
        if shared == 1:
            return row
    return {one: many // shared for one, many in row.items()}
