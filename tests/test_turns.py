import copy
import unittest

from plain import (
    NO_NETS, NO_TURNS, leads_by_words, nets_of, orders_of, pair_rings_by_joining, pairs_of, ring_lengths,
    rings_by_powers, turn_with_rings, turns_of)
from restalike.errors import BadNet, BadTurn, NoTurn, Unlike
from restalike.turns import can_lead, count_led, count_pair_rings, leads, led_net, led_nets, rings

OF_A_TURN = (rings, can_lead, count_pair_rings, count_led, led_net, led_nets)
PATH = (4, ((0, 1), (1, 2), (2, 3)))


def led_net_or_none(turn):
    try:
        return led_net(turn)
    except NoTurn:
        return None


class ExamplesTest(unittest.TestCase):

    def test_turn_of_five(self):
        turn = (1, 2, 3, 0, 4)
        self.assertEqual(
            [rings(turn), can_lead(turn), count_pair_rings(turn), count_led(turn), led_nets((1, 2, 3, 0))[0],
             can_lead((1, 0)), count_led((1, 0))],
            [(1, 4), True, 3, 8, (4, ((0, 1), (0, 2), (2, 3))), False, 0])

    def test_leads(self):
        self.assertIs(leads((0, 3, 4, 2, 1), (5, ((0, 1), (0, 2), (1, 2), (1, 3), (2, 4)))), True)

    def test_no_turn(self):
        with self.assertRaises(NoTurn) as caught:
            led_net((1, 0))
        self.assertEqual(vars(caught.exception), {})


class LeadsTest(unittest.TestCase):

    def test_all_nets_by_all_turns_of_up_to_four_halls(self):
        for halls in range(1, 5):
            for net in nets_of(halls):
                for turn in turns_of(halls):
                    self.assertIs(leads(turn, net), leads_by_words(turn, net), (turn, net))

    def test_one_hall(self):
        self.assertIs(leads((0,), (1, ())), True)

    def test_nine_halls(self):
        turn = (1, 2, 3, 4, 5, 6, 7, 0, 8)
        net = led_net(turn)
        self.assertIs(leads(turn, net), True)
        for pair in pairs_of(9):
            other = (9, tuple(sorted(set(net[1]) ^ {pair})))
            self.assertIs(leads(turn, other), False, other)
        self.assertIs(leads(tuple(range(9)), net), False)

    def test_unlike(self):
        for turn, net in (((0,), (2, ())), ((1, 2, 3, 0), (5, ())), ((1, 2, 3, 0, 4), PATH), ((0, 1, 2), PATH),
                          (tuple(range(9)), (1, ())), ((0,), (9, ()))):
            with self.assertRaises(Unlike) as caught:
                leads(turn, net)
            self.assertEqual(vars(caught.exception), {})

    def test_wrong_turn_comes_first(self):
        for turn in NO_TURNS:
            for net in (PATH, (1, ()), (9, ()), (4, []), (10, ()), None, "net", [4, ()]):
                with self.subTest(turn=turn, net=net), self.assertRaises(BadTurn):
                    leads(turn, net)

    def test_wrong_net_beside_a_right_turn(self):
        for part, values in NO_NETS.items():
            for net in values:
                for turn in ((0,), (1, 0), (1, 2, 3, 0), tuple(range(9))):
                    before = copy.deepcopy(net)
                    with self.subTest(turn=turn, net=net), self.assertRaises(BadNet) as caught:
                        leads(turn, net)
                    self.assertEqual(caught.exception.part, part)
                    self.assertEqual(repr(net), repr(before))


class TurnsTest(unittest.TestCase):

    def test_no_turns(self):
        for asked in OF_A_TURN:
            for value in NO_TURNS:
                with self.subTest(asked=asked.__name__, value=value):
                    before = copy.deepcopy(value)
                    with self.assertRaises(BadTurn) as caught:
                        asked(value)
                    self.assertEqual(vars(caught.exception), {})
                    self.assertEqual(repr(value), repr(before))

    def test_rings_of_pairs_of_all_turns_of_up_to_five_halls(self):
        for halls in range(1, 6):
            for turn in turns_of(halls):
                self.assertEqual(rings(turn), rings_by_powers(turn), turn)
                self.assertEqual(count_pair_rings(turn), len(pair_rings_by_joining(turn)), turn)

    def test_all_turns_against_all_nets_of_up_to_five_halls(self):
        for halls in range(1, 6):
            nets = nets_of(halls)
            for turn in turns_of(halls):
                led = tuple(net for net in nets if leads(turn, net))
                self.assertIs(can_lead(turn), led != (), turn)
                self.assertEqual(count_led(turn), len(led), turn)
                self.assertEqual(led_nets(turn), led, turn)
                if led:
                    self.assertIn(led_net(turn), led)
                else:
                    self.assertRaises(NoTurn, led_net, turn)

    def test_one_hall(self):
        self.assertEqual(
            [rings((0,)), can_lead((0,)), count_pair_rings((0,)), count_led((0,)), led_net((0,)), led_nets((0,))],
            [(1,), True, 0, 1, (1, ()), ((1, ()),)])

    def test_two_halls_left_in_place(self):
        turn = (0, 1, 3, 4, 5, 2)
        self.assertEqual([rings(turn), can_lead(turn), count_led(turn), led_nets(turn)], [(1, 1, 4), False, 0, ()])
        self.assertRaises(NoTurn, led_net, turn)

    def test_kinds_of_answers(self):
        turn = (1, 2, 3, 0, 4)
        self.assertIs(type(rings(turn)), tuple)
        self.assertIs(type(led_nets(turn)), tuple)
        self.assertIs(type(led_net(turn)), tuple)
        self.assertIs(type(count_led(turn)), int)
        self.assertIs(type(count_led((0,))), int)
        self.assertIs(type(count_led((1, 0))), int)
        self.assertIs(type(count_pair_rings(turn)), int)
        for halls, pairs in led_nets(turn):
            self.assertIs(type(halls), int)
            self.assertIs(type(pairs), tuple)

    def test_equal_arguments_have_equal_answers(self):
        for turn in turns_of(4):
            again = tuple(list(turn))
            for asked in (rings, can_lead, count_pair_rings, count_led, led_nets):
                self.assertEqual(asked(turn), asked(again))
            self.assertEqual(again, turn)
            for net in nets_of(4)[::7]:
                before = copy.deepcopy(net)
                self.assertEqual(leads(turn, net), leads(again, before))
                self.assertEqual(net, before)


class GreaterTurnsTest(unittest.TestCase):
    """Turns of six to nine halls, with rings of all lengths, laid through the halls in several orders."""

    def turns(self):
        for halls in range(6, 10):
            for lengths in ring_lengths(halls):
                for places in orders_of(halls):
                    yield lengths, turn_with_rings(lengths, places)

    def test_rings(self):
        for lengths, turn in self.turns():
            self.assertEqual(rings(turn), lengths, turn)
            self.assertEqual(rings(turn), rings_by_powers(turn), turn)

    def test_count_pair_rings(self):
        for _, turn in self.turns():
            self.assertEqual(count_pair_rings(turn), len(pair_rings_by_joining(turn)), turn)

    def test_can_lead(self):
        for lengths, turn in self.turns():
            self.assertIs(can_lead(turn), lengths in ((8,), (4, 4), (1, 8), (1, 4, 4)), turn)
            # Only if every ring of pairs has an even number of them can joined and parted ones take turns.
            self.assertIs(can_lead(turn), all(len(lot) % 2 == 0 for lot in pair_rings_by_joining(turn)), turn)

    def test_led_nets(self):
        for _, turn in self.turns():
            led = led_nets(turn)
            if not can_lead(turn):
                self.assertEqual(led, ())
                self.assertEqual(count_led(turn), 0)
                self.assertRaises(NoTurn, led_net, turn)
                continue
            self.assertEqual(count_led(turn), 2 ** len(pair_rings_by_joining(turn)), turn)
            self.assertEqual(len(led), count_led(turn), turn)
            self.assertEqual(list(led), sorted(set(led)), turn)
            self.assertIn(led_net_or_none(turn), led)
            for net in led:
                self.assertIs(leads(turn, net), True, (turn, net))
            for net in led[::50]:
                self.assertTrue(leads_by_words(turn, net), (turn, net))

    def test_counts(self):
        counts = {lengths: count_led(turn) for lengths, turn in self.turns() if can_lead(turn)}
        self.assertEqual(counts, {(8,): 16, (4, 4): 256, (1, 8): 32, (1, 4, 4): 1024})


if __name__ == "__main__":
    unittest.main()
