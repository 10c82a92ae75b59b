import unittest

from plain import NO_HALLS, leads_by_words, no_numbers, pairs_of, turns_of
from restalike.desks import Desk
from restalike.errors import BadNumber, BadPair, NoStep
from restalike.restturns import is_restalike
from restalike.turns import led_nets


def state(desk):
    return [desk.net, desk.done, desk.is_restalike()]


class Account:
    """What a desk should tell, kept as a set for each step taken."""

    def __init__(self, halls):
        self.halls = halls
        self.done = ()
        self.joined = [frozenset()]

    def turn_over(self, one, other):
        pair = tuple(sorted((one, other)))
        self.done = (*self.done, pair)
        self.joined.append(self.joined[-1] ^ {pair})

    def undo(self):
        self.done = self.done[:-1]
        self.joined.pop()

    def state(self):
        net = (self.halls, tuple(sorted(self.joined[-1])))
        return [net, self.done, is_restalike(net)]


class ExamplesTest(unittest.TestCase):

    def test_path(self):
        desk = Desk(4)
        self.assertEqual(
            [desk.turn_over(1, 0), desk.turn_over(1, 2), desk.turn_over(2, 3), desk.net, desk.is_restalike(),
             desk.undo(), desk.done, desk.is_restalike()],
            [None, None, None, (4, ((0, 1), (1, 2), (2, 3))), True, None, ((0, 1), (1, 2)), False])

    def test_bad_number(self):
        with self.assertRaises(BadNumber) as caught:
            Desk(10)
        self.assertEqual(vars(caught.exception), {})


class StepsTest(unittest.TestCase):

    def test_new_desks(self):
        for halls in range(1, 10):
            desk = Desk(halls)
            self.assertEqual(state(desk), [(halls, ()), (), halls == 1])

    def test_long_rows(self):
        # The numbers of this row go through a long ring without a plain order.
        number = 1
        for halls in range(2, 10):
            desk, account = Desk(halls), Account(halls)
            orders = set()
            for _ in range(400):
                number = number * 75 % 65537
                if number % 3 == 0 and account.done:
                    self.assertIsNone(desk.undo())
                    account.undo()
                else:
                    one = number // 3 % halls
                    other = (one + 1 + number // 30 % (halls - 1)) % halls
                    orders.add(one < other)
                    self.assertIsNone(desk.turn_over(one, other))
                    account.turn_over(one, other)
                self.assertEqual(state(desk), account.state(), halls)
            self.assertEqual(orders, {True, False})
            while account.done:
                self.assertIsNone(desk.undo())
                account.undo()
                self.assertEqual(state(desk), account.state(), halls)
            self.assertEqual(state(desk), [(halls, ()), (), False])
            self.assertRaises(NoStep, desk.undo)

    def test_to_restalike_nets_and_back(self):
        for net in led_nets((1, 2, 3, 0, 4)) + led_nets((1, 2, 3, 4, 5, 6, 7, 0))[::5]:
            desk = Desk(net[0])
            for x, y in net[1][::-1]:
                self.assertIs(desk.is_restalike(), False, net)
                desk.turn_over(y, x)
            self.assertEqual(state(desk), [net, net[1][::-1], True])
            desk.undo()
            self.assertEqual(state(desk), [(net[0], net[1][1:]), net[1][:0:-1], False])

    def test_is_restalike_by_all_turns(self):
        desk = Desk(5)
        # Each step turns one pair over, so that all nets of five halls come up, one behind another.
        for step in range(1, 1024):
            pair = pairs_of(5)[(step & -step).bit_length() - 1]
            desk.turn_over(*pair)
            if step % 5 == 0:
                self.assertIs(desk.is_restalike(), any(leads_by_words(turn, desk.net) for turn in turns_of(5)))

    def test_a_pair_turned_over_again_is_parted(self):
        desk = Desk(3)
        desk.turn_over(0, 2)
        desk.turn_over(2, 0)
        self.assertEqual([desk.net, desk.done], [(3, ()), ((0, 2), (0, 2))])
        desk.undo()
        self.assertEqual([desk.net, desk.done], [(3, ((0, 2),)), ((0, 2),)])
        desk.turn_over(0, 1)
        desk.turn_over(2, 0)
        self.assertEqual([desk.net, desk.done], [(3, ((0, 1),)), ((0, 2), (0, 1), (0, 2))])

    def test_pairs_of_the_net_ascend(self):
        desk = Desk(4)
        for x, y in pairs_of(4)[::-1]:
            desk.turn_over(y, x)
        self.assertEqual([desk.net, desk.done], [(4, tuple(pairs_of(4))), tuple(pairs_of(4)[::-1])])

    def test_kinds_of_answers(self):
        desk = Desk(9)
        desk.turn_over(8, 0)
        self.assertEqual([type(desk.net), type(desk.net[1]), type(desk.done)], [tuple] * 3)
        self.assertTrue(all(type(pair) is tuple for pair in desk.net[1] + desk.done))
        self.assertIs(type(desk.is_restalike()), bool)

    def test_answers_given_stay_as_they_are(self):
        desk = Desk(4)
        desk.turn_over(0, 1)
        net, done = desk.net, desk.done
        desk.turn_over(2, 3)
        desk.undo()
        desk.undo()
        self.assertEqual([net, done], [(4, ((0, 1),)), ((0, 1),)])

    def test_by_names_of_the_arguments(self):
        desk = Desk(halls=4)
        desk.turn_over(one=3, other=1)
        self.assertEqual(desk.net, (4, ((1, 3),)))

    def test_its_own_methods_and_properties(self):
        for name in ("turn_over", "undo", "is_restalike", "net", "done"):
            self.assertIn(name, vars(Desk))
        self.assertIsInstance(vars(Desk)["net"], property)
        self.assertIsInstance(vars(Desk)["done"], property)

    def test_two_desks(self):
        one, other = Desk(4), Desk(4)
        one.turn_over(0, 1)
        self.assertEqual([state(one), state(other)], [[(4, ((0, 1),)), ((0, 1),), False], [(4, ()), (), False]])
        self.assertRaises(NoStep, other.undo)
        other.turn_over(2, 3)
        other.turn_over(0, 1)
        one.undo()
        self.assertEqual([one.net, one.done], [(4, ()), ()])
        self.assertEqual([other.net, other.done], [(4, ((0, 1), (2, 3))), ((2, 3), (0, 1))])

    def test_equal_steps_have_equal_answers(self):
        one, other = Desk(5), Desk(5)
        for x, y in pairs_of(5) + pairs_of(5)[::2]:
            one.turn_over(x, y)
            other.turn_over(y, x)
            self.assertEqual(state(one), state(other))


class WrongValuesTest(unittest.TestCase):

    def test_no_numbers(self):
        for value in no_numbers(9):
            with self.subTest(value=value), self.assertRaises(BadNumber) as caught:
                Desk(value)
            self.assertEqual(vars(caught.exception), {})

    def check_bad_pair(self, desk, one, other):
        before = state(desk)
        with self.subTest(one=one, other=other), self.assertRaises(BadPair) as caught:
            desk.turn_over(one, other)
        self.assertEqual(vars(caught.exception), {})
        self.assertEqual(state(desk), before)

    def test_no_pairs(self):
        for halls in range(1, 10):
            desk = Desk(halls)
            if halls > 2:
                desk.turn_over(2, 0)
                desk.turn_over(0, 1)
            for hall in range(halls):
                self.check_bad_pair(desk, hall, hall)
                for value in (*NO_HALLS, halls, halls + 1, -halls):
                    self.check_bad_pair(desk, hall, value)
                    self.check_bad_pair(desk, value, hall)

    def test_two_wrong_values(self):
        desk = Desk(9)
        desk.turn_over(0, 1)
        for one in NO_HALLS:
            for other in NO_HALLS:
                self.check_bad_pair(desk, one, other)

    def test_a_pair_in_one(self):
        desk = Desk(4)
        self.check_bad_pair(desk, (0, 1), None)
        self.check_bad_pair(desk, (0, 1), (0, 1))

    def test_nothing_to_take_back(self):
        desk = Desk(4)
        for _ in range(2):
            with self.assertRaises(NoStep) as caught:
                desk.undo()
            self.assertEqual(vars(caught.exception), {})
            self.assertEqual(state(desk), [(4, ()), (), False])
        desk.turn_over(0, 1)
        desk.turn_over(0, 1)
        desk.undo()
        desk.undo()
        self.assertRaises(NoStep, desk.undo)
        desk.turn_over(1, 3)
        self.assertEqual([desk.net, desk.done], [(4, ((1, 3),)), ((1, 3),)])

    def test_a_wrong_pair_is_no_step(self):
        desk = Desk(4)
        self.assertRaises(BadPair, desk.turn_over, 0, 4)
        self.assertRaises(NoStep, desk.undo)


if __name__ == "__main__":
    unittest.main()
