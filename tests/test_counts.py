import unittest
from fractions import Fraction
from math import factorial, gcd

from plain import (
    leads_by_words, leads_ways_by_words, nets_of, no_numbers, one_ways_of, pair_rings_by_joining, turned, turns_of,
    way_rings_by_joining)
from restalike.counts import count_unlike, count_unlike_ways, has_restalike
from restalike.errors import BadNumber

OF_A_NUMBER = (count_unlike, count_unlike_ways, has_restalike)


def sort_out(nets, turn_members, leads):
    """How many unlike nets there are of some, and how many of them a turn leads to their rests."""
    seen = set()
    unlike = led = 0
    for net in nets:
        turns = turns_of(net[0])
        # The first of all turns leaves every hall in place.
        if turn_members(net, turns[0]) in seen:
            continue
        seen.update(turn_members(net, turn) for turn in turns)
        unlike += 1
        led += any(leads(turn, net) for turn in turns)
    return unlike, led


def turned_pairs(net, turn):
    return frozenset(frozenset(pair) for pair in turned(turn, net[1]))


def turned_ways(net, turn):
    return turned(turn, net[1])


def shares_out(halls, most, number):
    """All ways to make up a number of halls of rings whose lengths a number divides: how many of each length."""
    if most == 0:
        return [{}] if halls == 0 else []
    if most % number != 0:
        return shares_out(halls, most - 1, number)
    found = []
    for many in range(halls // most + 1):
        for others in shares_out(halls - many * most, most - 1, number):
            found.append({most: many, **others} if many else others)
    return found


def count_by_shares(halls, number, pairs_within, pairs_between):
    """The sum over all kinds of turns, as the share that each has of all turns, of 2 to the power of its rings."""
    total = Fraction(0)
    for ones in (0, 1):
        for share in shares_out(halls - ones, halls - ones, number) if halls >= ones else []:
            if ones:
                share = {**share, 1: 1}
            lengths = [length for length, many in share.items() for _ in range(many)]
            rings = sum(pairs_within(length) for length in lengths)
            for at, length in enumerate(lengths):
                rings += sum(pairs_between(length, other) for other in lengths[at + 1:])
            turns = 1
            for length, many in share.items():
                turns *= length ** many * factorial(many)
            total += Fraction(2 ** rings, turns)
    return total


class ExamplesTest(unittest.TestCase):

    def test_some_numbers(self):
        self.assertEqual(
            [[count_unlike(halls) for halls in (1, 4, 5, 6, 8, 9)],
             [count_unlike_ways(halls) for halls in (2, 3, 4)], has_restalike(40)],
            [[1, 1, 2, 0, 10, 36], [1, 4, 10], True])


class CountsTest(unittest.TestCase):

    def test_all_nets_of_up_to_five_halls(self):
        found = [sort_out(nets_of(halls), turned_pairs, leads_by_words) for halls in range(1, 6)]
        self.assertEqual([unlike for unlike, _ in found], [1, 2, 4, 11, 34])
        self.assertEqual([count_unlike(halls) for halls in range(1, 6)], [led for _, led in found])

    def test_all_one_way_nets_of_up_to_four_halls(self):
        found = [sort_out(one_ways_of(halls), turned_ways, leads_ways_by_words) for halls in range(1, 5)]
        self.assertEqual([unlike for unlike, _ in found], [1, 3, 16, 218])
        self.assertEqual([count_unlike_ways(halls) for halls in range(1, 5)], [led for _, led in found])

    def test_sum_over_all_turns_of_up_to_seven_halls(self):
        for halls in range(1, 8):
            nets = ways = 0
            for turn in turns_of(halls):
                # Joined and parted ones take turns only in a ring of an even number.
                lots = pair_rings_by_joining(turn)
                if all(len(lot) % 2 == 0 for lot in lots):
                    nets += 2 ** len(lots)
                lots = way_rings_by_joining(turn)
                if all(len(lot) % 2 == 0 for lot in lots):
                    ways += 2 ** len(lots)
            self.assertEqual([nets % factorial(halls), ways % factorial(halls)], [0, 0])
            self.assertEqual(count_unlike(halls), nets // factorial(halls), halls)
            self.assertEqual(count_unlike_ways(halls), ways // factorial(halls), halls)

    def test_every_number_of_halls(self):
        for halls in range(1, 41):
            nets = count_by_shares(halls, 4, lambda length: length // 2, gcd)
            self.assertEqual(count_unlike(halls), nets, halls)
            ways = count_by_shares(
                halls, 2, lambda length: length - 1, lambda length, other: 2 * gcd(length, other))
            self.assertEqual(count_unlike_ways(halls), ways, halls)
            self.assertIs(type(count_unlike(halls)), int)
            self.assertIs(type(count_unlike_ways(halls)), int)

    def test_known_numbers(self):
        self.assertEqual(
            [count_unlike(halls) for halls in range(1, 22)],
            [1, 0, 0, 1, 2, 0, 0, 10, 36, 0, 0, 720, 5600, 0, 0, 703760, 11220000, 0, 0, 9168331776, 293293716992])
        self.assertEqual(
            [count_unlike_ways(halls) for halls in range(1, 11)],
            [1, 1, 4, 10, 136, 720, 44224, 703760, 179228736, 9168331776])

    def test_as_many_one_way_nets_as_nets_of_twice_as_many_halls(self):
        # A known likeness (Read 1963), for even numbers of halls.
        for halls in range(2, 21, 2):
            self.assertEqual(count_unlike_ways(halls), count_unlike(2 * halls), halls)

    def test_has_restalike(self):
        for halls in range(1, 41):
            self.assertIs(has_restalike(halls), count_unlike(halls) > 0, halls)
            self.assertIs(has_restalike(halls), halls % 4 in (0, 1), halls)
            self.assertGreater(count_unlike_ways(halls), 0, halls)


class WrongValuesTest(unittest.TestCase):

    def test_no_numbers(self):
        for asked in OF_A_NUMBER:
            for value in no_numbers(40):
                with self.subTest(asked=asked.__name__, value=value):
                    before = repr(value)
                    with self.assertRaises(BadNumber) as caught:
                        asked(value)
                    self.assertEqual(vars(caught.exception), {})
                    self.assertEqual(repr(value), before)

    def test_equal_arguments_have_equal_answers(self):
        for asked in OF_A_NUMBER:
            self.assertEqual([asked(halls) for halls in range(1, 41)], [asked(halls) for halls in range(1, 41)])


if __name__ == "__main__":
    unittest.main()
