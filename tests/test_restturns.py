import copy
import unittest

from plain import (
    NEVER_SHOWN, NO_NETS, NO_TURNS, leads_by_words, named_anew, nets_of, orders_of, pairs_of, shuffled,
    turn_with_rings, turns_of)
from restalike.errors import BadNet
from restalike.nets import friends
from restalike.restturns import is_restalike, rest_turn, shows_rest_turn
from restalike.turns import led_net, led_nets, leads

PATH = (4, ((0, 1), (1, 2), (2, 3)))
RING = (5, ((0, 1), (0, 4), (1, 2), (2, 3), (3, 4)))


def led_examples():
    """Nets of eight and nine halls that some turn leads to their rests, beside that turn."""
    for lengths in ((8,), (4, 4), (1, 8), (1, 4, 4)):
        for places in orders_of(sum(lengths)):
            turn = turn_with_rings(lengths, places)
            yield turn, led_net(turn)
        for net in led_nets(turn)[::9]:
            yield turn, net


class ExamplesTest(unittest.TestCase):

    def test_ring(self):
        self.assertEqual(
            [is_restalike(RING), shows_rest_turn(RING, (0, 2, 4, 1, 3)), rest_turn((3, ((0, 1),)))],
            [True, True, None])


class SmallNetsTest(unittest.TestCase):

    def check(self, net, leading):
        found = rest_turn(net)
        if leading:
            self.assertIn(found, leading, net)
            self.assertIs(type(found), tuple)
            self.assertTrue(all(type(hall) is int for hall in found))
        else:
            self.assertIsNone(found, net)
        self.assertIs(is_restalike(net), bool(leading), net)
        self.assertIs(shows_rest_turn(net, None), not leading, net)
        self.assertIs(shows_rest_turn(net, found), True, net)

    def test_all_nets_by_all_turns_of_up_to_four_halls(self):
        turns = [turn for halls in range(1, 6) for turn in turns_of(halls)]
        for halls in range(1, 5):
            for net in nets_of(halls):
                leading = [turn for turn in turns_of(halls) if leads_by_words(turn, net)]
                self.check(net, leading)
                for turn in turns:
                    self.assertIs(shows_rest_turn(net, turn), turn in leading, (net, turn))

    def test_all_nets_by_all_turns_of_five_halls(self):
        many = 0
        for net in nets_of(5):
            leading = [turn for turn in turns_of(5) if leads_by_words(turn, net)]
            self.check(net, leading)
            many += bool(leading)
            for turn in turns_of(5):
                self.assertIs(shows_rest_turn(net, turn), turn in leading, (net, turn))
        # The ring of five can be laid in twelve ways, the other net that is alike its rest in sixty.
        self.assertEqual(many, 72)

    def test_one_hall(self):
        net = (1, ())
        self.assertEqual([rest_turn(net), is_restalike(net)], [(0,), True])
        self.assertIs(shows_rest_turn(net, (0,)), True)
        for value in (None, (1,), (0, 1), (False,), (), 0, [0], (None,), ((0,),), "0", {0: 0}, True, False):
            self.assertIs(shows_rest_turn(net, value), False, value)

    def test_numbers_of_halls_without_any(self):
        for halls in (2, 3, 6, 7):
            pairs = pairs_of(halls)
            for many in range(len(pairs) + 1):
                for start in range(0, len(pairs) - many + 1, 3):
                    net = (halls, tuple(pairs[start:start + many]))
                    self.assertEqual([rest_turn(net), is_restalike(net)], [None, False], net)
                    self.assertIs(shows_rest_turn(net, None), True, net)


class GreaterNetsTest(unittest.TestCase):

    def test_led_nets(self):
        for turn, net in led_examples():
            for step in range(1, 11, 3):
                # The same net under other names is led by the turn under these names.
                names = shuffled(net[0], step)
                again = named_anew(net, names)
                like = [None] * net[0]
                for hall, led in enumerate(turn):
                    like[names[hall]] = names[led]
                self.assertIs(shows_rest_turn(again, tuple(like)), True, (again, like))
                self.assertIs(shows_rest_turn(again, None), False, again)
                self.assertIs(shows_rest_turn(again, tuple(range(net[0]))), False, again)
                self.assertIs(shows_rest_turn(again, list(like)), False, again)
                found = rest_turn(again)
                self.assertEqual(sorted(found), list(range(net[0])), again)
                self.assertTrue(leads_by_words(found, again), (again, found))
                self.assertIs(is_restalike(again), True, again)
                self.assertIs(shows_rest_turn(again, found), True, again)

    def test_numbers_of_friends(self):
        nets = [net for halls in (1, 4, 5) for net in nets_of(halls) if is_restalike(net)]
        nets.extend([net for _, net in led_examples()])
        for net in nets:
            many = sorted(friends(net))
            self.assertEqual([least + most for least, most in zip(many, many[::-1])], [net[0] - 1] * net[0], net)

    def test_nets_that_no_turn_leads(self):
        for turn, net in list(led_examples())[::5]:
            halls, pairs = net
            less = (halls, pairs[1:])
            star = (halls, tuple((0, y) for y in range(1, halls)))
            for other in (less, star, (halls, ()), (halls, tuple(pairs_of(halls)))):
                self.assertEqual([rest_turn(other), is_restalike(other)], [None, False], other)
                self.assertIs(shows_rest_turn(other, None), True, other)
                self.assertIs(shows_rest_turn(other, turn), False, other)

    def test_nets_whose_numbers_of_friends_fit_by_all_turns(self):
        pairs = (
            (0, 1), (0, 2), (0, 4), (0, 5), (0, 6), (0, 7), (2, 3), (2, 4), (2, 5), (2, 6), (2, 7), (4, 5), (4, 6),
            (6, 7))
        nets = [(8, pairs)]
        for gone in pairs:
            for other in pairs_of(8):
                net = (8, tuple(sorted({*pairs, other} - {gone})))
                many = sorted(friends(net))
                if other not in pairs and [least + most for least, most in zip(many, many[::-1])] == [7] * 8:
                    nets.append(net)
        answers = []
        for net in nets[::4]:
            leading = any(leads_by_words(turn, net) for turn in turns_of(8))
            self.assertIs(is_restalike(net), leading, net)
            self.assertIs(rest_turn(net) is None, not leading, net)
            answers.append(leading)
        self.assertGreater(answers.count(False), 5)
        self.assertGreater(answers.count(True), 1)


class WrongValuesTest(unittest.TestCase):

    def test_no_nets(self):
        for part, values in NO_NETS.items():
            for value in values:
                with self.subTest(value=value):
                    before = copy.deepcopy(value)
                    for asked in (rest_turn, is_restalike):
                        with self.assertRaises(BadNet) as caught:
                            asked(value)
                        self.assertEqual(vars(caught.exception), {"part": part})
                    for shown in (None, (0,), (1, 3, 0, 2), [], "turn", True, (10, 11)):
                        with self.assertRaises(BadNet) as caught:
                            shows_rest_turn(value, shown)
                        self.assertEqual(caught.exception.part, part)
                    self.assertEqual(repr(value), repr(before))

    def test_any_value_may_be_the_last_argument(self):
        self.assertIs(shows_rest_turn(PATH, (1, 3, 0, 2)), True)
        for net in (PATH, (4, ()), (2, ((0, 1),)), (2, ()), RING, (9, ()), led_net((1, 2, 3, 0, 5, 6, 7, 4, 8))):
            for value in NEVER_SHOWN:
                with self.subTest(net=net, value=value):
                    before = copy.deepcopy(value)
                    self.assertIs(shows_rest_turn(net, value), False)
                    self.assertEqual(repr(value), repr(before))

    def test_no_turns_are_never_shown(self):
        for net in (PATH, RING, (1, ()), (2, ())):
            for value in NO_TURNS:
                wanted = value is None and net == (2, ())
                self.assertIs(shows_rest_turn(net, value), wanted, (net, value))

    def test_turns_of_another_number_of_halls(self):
        for net in (PATH, RING, (1, ()), led_net((1, 2, 3, 4, 5, 6, 7, 0))):
            for halls in range(1, 10):
                if halls != net[0]:
                    self.assertIs(shows_rest_turn(net, tuple(range(halls))), False)
                    self.assertIs(shows_rest_turn(net, (*range(1, halls), 0)), False)

    def test_equal_arguments_have_equal_answers(self):
        for net in nets_of(4) + [RING, (9, ())]:
            again = (net[0], tuple([tuple(list(pair)) for pair in net[1]]))
            before = copy.deepcopy(net)
            self.assertEqual(is_restalike(net), is_restalike(again))
            self.assertEqual(rest_turn(net) is None, rest_turn(again) is None)
            for turn in turns_of(4):
                self.assertEqual(shows_rest_turn(net, turn), shows_rest_turn(again, tuple(list(turn))))
            self.assertEqual([net, again], [before, before])

    def test_shown_turns_are_those_that_lead(self):
        for net in nets_of(4):
            for turn in turns_of(4):
                self.assertIs(shows_rest_turn(net, turn), leads(turn, net))


if __name__ == "__main__":
    unittest.main()
