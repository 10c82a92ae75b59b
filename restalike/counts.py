"""How many unlike nets of so many halls some turn leads to their rests."""

from math import factorial, gcd

from restalike.nets import check_number

MOST_COUNTED = 40


def splits(number, least):
    """Return the list of all ascending tuples of integers, none below least, that add up to a number."""
    if number == 0:
        return [()]
    return [(first, *others) for first in range(least, number + 1) for others in splits(number - first, first)]


def divided_rings(number, halls):
    """Return the list of all lengths of rings of so many halls that a number divides, but for one 1 at most."""
    ones = halls % number
    if ones > 1:
        return []
    return [(1,) * ones + tuple([number * part for part in parts]) for parts in splits(halls // number, 1)]


def count_turns(lengths):
    """Return how many turns have rings of such lengths."""
    many = factorial(sum(lengths))
    # A ring may begin with each of its halls, and rings of one length may change places.
    for length in lengths:
        many //= length
    for length in sorted(set(lengths)):
        many //= factorial(lengths.count(length))
    return many


def count_crossing(lengths):
    """Return how many rings of pairs a turn has whose halls are on two of its rings, of such lengths."""
    return sum([gcd(length, other) for at, length in enumerate(lengths) for other in lengths[:at]])


def count_unlike(halls):
    """Return how many unlike nets of so many halls some turn leads to their rests."""
    check_number(halls, MOST_COUNTED)
    led = 0
    for lengths in divided_rings(4, halls):
        within = sum([length // 2 for length in lengths])
        led += count_turns(lengths) << (within + count_crossing(lengths))
    return led // factorial(halls)


def count_unlike_ways(halls):
    """Return how many unlike one-way nets of so many halls some turn leads to their rests."""
    check_number(halls, MOST_COUNTED)
    led = 0
    for lengths in divided_rings(2, halls):
        within = sum([length - 1 for length in lengths])
        # Between two rings there are ways to and fro, so twice as many rings of ways as of pairs.
        led += count_turns(lengths) << (within + 2 * count_crossing(lengths))
    return led // factorial(halls)


def has_restalike(halls):
    """Tell whether some turn leads a net of so many halls to its rest."""
    check_number(halls, MOST_COUNTED)
    return halls % 4 < 2
