import copy
import unittest

from plain import NO_NETS, joined, nets_of, pairs_of
from restalike.errors import BadNet
from restalike.nets import friends, is_net, rest

PATH = (4, ((0, 1), (1, 2), (2, 3)))


class ExamplesTest(unittest.TestCase):

    def test_path(self):
        self.assertEqual(
            [rest(PATH), friends(PATH), is_net((2, ((1, 0),)))],
            [(4, ((0, 2), (0, 3), (1, 3))), (1, 2, 2, 1), False])

    def test_bad_net(self):
        with self.assertRaises(BadNet) as caught:
            rest((2, ((1, 0),)))
        self.assertEqual(vars(caught.exception), {"part": "pairs"})


class NetsTest(unittest.TestCase):

    def test_all_nets_of_up_to_four_halls(self):
        for halls in range(1, 5):
            for net in nets_of(halls):
                self.assertIs(is_net(net), True)
                other = rest(net)
                self.assertIs(is_net(other), True)
                self.assertEqual(other[0], halls)
                for pair in pairs_of(halls):
                    self.assertNotEqual(pair in net[1], pair in other[1])
                self.assertEqual(rest(other), net)
                self.assertEqual(
                    friends(net), tuple(sum(joined(net, x, y) for y in range(halls)) for x in range(halls)))

    def test_one_hall(self):
        self.assertIs(is_net((1, ())), True)
        self.assertEqual(rest((1, ())), (1, ()))
        self.assertEqual(friends((1, ())), (0,))

    def test_no_pairs_and_all_pairs(self):
        for halls in range(1, 10):
            none, every = (halls, ()), (halls, tuple(pairs_of(halls)))
            self.assertIs(is_net(none), True)
            self.assertIs(is_net(every), True)
            self.assertEqual(rest(none), every)
            self.assertEqual(rest(every), none)
            self.assertEqual(friends(none), (0,) * halls)
            self.assertEqual(friends(every), (halls - 1,) * halls)

    def test_nine_halls(self):
        star = (9, tuple((0, y) for y in range(1, 9)))
        self.assertIs(is_net(star), True)
        self.assertEqual(rest(star), (9, tuple((x, y) for x in range(1, 9) for y in range(x + 1, 9))))
        self.assertEqual(friends(star), (8, 1, 1, 1, 1, 1, 1, 1, 1))
        self.assertIs(is_net((9, ((0, 8), (7, 8)))), True)
        self.assertEqual(friends((9, ((0, 8), (7, 8)))), (1, 0, 0, 0, 0, 0, 0, 1, 2))

    def test_kinds_of_answers(self):
        other = rest(PATH)
        self.assertIs(type(other), tuple)
        self.assertIs(type(other[1]), tuple)
        self.assertTrue(all(type(pair) is tuple for pair in other[1]))
        self.assertIs(type(friends(PATH)), tuple)
        self.assertTrue(all(type(many) is int for many in friends(PATH)))

    def test_no_nets(self):
        for part, values in NO_NETS.items():
            for value in values:
                with self.subTest(value=value):
                    before = copy.deepcopy(value)
                    self.assertIs(is_net(value), False)
                    for asked in (rest, friends):
                        with self.assertRaises(BadNet) as caught:
                            asked(value)
                        self.assertEqual(caught.exception.part, part)
                    self.assertEqual(repr(value), repr(before))

    def test_equal_arguments_have_equal_answers(self):
        for net in nets_of(4):
            again = (net[0], tuple([tuple(list(pair)) for pair in net[1]]))
            before = copy.deepcopy(net)
            self.assertEqual(rest(net), rest(again))
            self.assertEqual(friends(net), friends(again))
            self.assertEqual(is_net(net), is_net(again))
            self.assertEqual(net, before)


if __name__ == "__main__":
    unittest.main()
