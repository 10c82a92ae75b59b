import copy
import unittest
from itertools import permutations

from plain import (
    NO_NETS, joined, named_anew, nets_of, orders_of, pairs_of, ring_lengths, shuffled, turn_with_rings, turns_of)
from restalike.errors import BadNet
from restalike.spans import distances, span
from restalike.turns import can_lead, led_net, led_nets


def distances_by_words(net):
    """The least lengths of all rows of unlike halls, each joined to the next."""
    halls = range(net[0])
    found = [[None] * net[0] for _ in halls]
    for many in range(net[0], 0, -1):
        for row in permutations(halls, many):
            if all(joined(net, x, y) for x, y in zip(row, row[1:])):
                found[row[0]][row[-1]] = many - 1
    return tuple(tuple(row) for row in found)


def distances_by_detours(net):
    """The distances of a net, every hall in turn being let as one to go through."""
    halls = range(net[0])
    far = [[0 if x == y else 1 if joined(net, x, y) else 99 for y in halls] for x in halls]
    for by in halls:
        for x in halls:
            for y in halls:
                far[x][y] = min(far[x][y], far[x][by] + far[by][y])
    return tuple(tuple(None if many == 99 else many for many in row) for row in far)


def greatest(rows):
    every = [far for row in rows for far in row]
    return None if None in every else max(every)


def path(halls):
    return halls, tuple((x, x + 1) for x in range(halls - 1))


def ring(halls):
    return halls, tuple(sorted([*path(halls)[1], (0, halls - 1)]))


def greater_nets():
    """Many nets of six to nine halls, joined and parted ones."""
    for halls in range(6, 10):
        pairs = pairs_of(halls)
        for step in (2, 3, 4, 5, 7, 9, 11, 13):
            for start in range(step):
                yield halls, tuple(pairs[start::step])
                yield halls, tuple(pair for at, pair in enumerate(pairs) if at % step != start)
        for many in range(len(pairs) + 1):
            yield halls, tuple(pairs[:many])
            yield halls, tuple(pairs[many:])
        for step in range(1, 11):
            names = shuffled(halls, step)
            for many in range(halls):
                yield named_anew((halls, path(halls)[1][:many]), names)
                yield named_anew((halls, ring(halls)[1][many:]), names)
                # Two lots of halls, all joined within each and none between them.
                yield named_anew((halls, tuple(pair for pair in pairs if (pair[0] < many) == (pair[1] < many))), names)


class ExamplesTest(unittest.TestCase):

    def test_small_nets(self):
        self.assertEqual(
            [span((4, ((0, 1), (1, 2), (2, 3)))), distances((3, ((0, 2),))), span((3, ((0, 2),)))],
            [3, ((0, None, 1), (None, 0, None), (1, None, 0)), None])


class DistancesTest(unittest.TestCase):

    def test_all_nets_of_up_to_five_halls(self):
        for halls in range(1, 6):
            for net in nets_of(halls):
                wanted = distances_by_words(net)
                self.assertEqual(distances(net), wanted, net)
                self.assertEqual(span(net), greatest(wanted), net)

    def test_greater_nets(self):
        spans = []
        for net in greater_nets():
            wanted = distances_by_detours(net)
            self.assertEqual(distances(net), wanted, net)
            self.assertEqual(span(net), greatest(wanted), net)
            spans.append(span(net))
        self.assertEqual(set(spans), {None, 1, 2, 3, 4, 5, 6, 7, 8})

    def test_one_hall(self):
        self.assertEqual([distances((1, ())), span((1, ()))], [((0,),), 0])

    def test_paths_rings_and_ends(self):
        for halls in range(2, 10):
            self.assertEqual(distances(path(halls)), tuple(
                tuple(abs(x - y) for y in range(halls)) for x in range(halls)))
            self.assertEqual(span(path(halls)), halls - 1)
            self.assertEqual(span((halls, tuple(pairs_of(halls)))), 1)
            self.assertIsNone(span((halls, ())))
            self.assertEqual(distances((halls, ())), tuple(
                tuple(0 if x == y else None for y in range(halls)) for x in range(halls)))
            # One hall is left out, the first or the last one.
            self.assertIsNone(span((halls, path(halls)[1][1:])))
            self.assertIsNone(span((halls, path(halls)[1][:-1])))
        for halls in range(3, 10):
            self.assertEqual(span(ring(halls)), halls // 2)

    def test_kinds_of_answers(self):
        for net in ((1, ()), path(9), (9, ((0, 8),))):
            rows = distances(net)
            self.assertIs(type(rows), tuple)
            self.assertTrue(all(type(row) is tuple and len(row) == net[0] for row in rows))
            self.assertTrue(all(type(far) in (int, type(None)) for row in rows for far in row))
        self.assertIs(type(span(path(9))), int)
        self.assertIs(type(span((1, ()))), int)


class RestalikeTest(unittest.TestCase):

    def test_led_nets_of_up_to_five_halls(self):
        for halls in range(2, 6):
            for turn in turns_of(halls):
                for net in led_nets(turn):
                    self.assertIn(span(net), (2, 3), net)
                if can_lead(turn):
                    self.assertIn(span(led_net(turn)), (2, 3), turn)
        self.assertEqual(span(led_net((0,))), 0)

    def test_led_nets_of_eight_and_nine_halls(self):
        spans = []
        for halls in (8, 9):
            for lengths in ring_lengths(halls):
                for places in orders_of(halls):
                    turn = turn_with_rings(lengths, places)
                    if can_lead(turn):
                        spans.append(span(led_net(turn)))
                        spans.extend(span(net) for net in led_nets(turn)[::5])
        self.assertEqual(set(spans), {2, 3})


class WrongValuesTest(unittest.TestCase):

    def test_no_nets(self):
        for part, values in NO_NETS.items():
            for value in values:
                for asked in (distances, span):
                    with self.subTest(asked=asked.__name__, value=value):
                        before = copy.deepcopy(value)
                        with self.assertRaises(BadNet) as caught:
                            asked(value)
                        self.assertEqual(vars(caught.exception), {"part": part})
                        self.assertEqual(repr(value), repr(before))

    def test_equal_arguments_have_equal_answers(self):
        for net in nets_of(4):
            again = (net[0], tuple([tuple(list(pair)) for pair in net[1]]))
            before = copy.deepcopy(net)
            self.assertEqual([distances(net), span(net)], [distances(again), span(again)])
            self.assertEqual([net, again], [before, before])


if __name__ == "__main__":
    unittest.main()
