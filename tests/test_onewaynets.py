import copy
import unittest

from plain import (
    NEVER_SHOWN, NO_ONE_WAYS, NO_TURNS, leads_ways_by_words, one_ways_of, orders_of, ring_lengths, turn_with_rings,
    turned, turns_of, way_rings_by_joining, ways_of)
from restalike.errors import BadTurn, BadWays, NoTurn, Unlike
from restalike.onewaynets import (
    can_lead_ways, count_led_ways, is_one_way, leads_ways, led_ways, shows_way_turn, way_rest, way_turn)

OF_A_TURN = (can_lead_ways, count_led_ways, led_ways)
CIRCLE = (3, ((0, 1), (1, 2), (2, 0)))
LINE = (4, ((0, 1), (0, 2), (0, 3), (1, 2), (1, 3), (2, 3)))


class ExamplesTest(unittest.TestCase):

    def test_small_ones(self):
        self.assertEqual(
            [way_rest((2, ((0, 1),))), way_turn((2, ())), can_lead_ways((0, 2, 1)), count_led_ways((0, 2, 1)),
             leads_ways((0, 2, 1), (3, ((0, 1), (1, 0), (1, 2))))],
            [(2, ((1, 0),)), None, True, 8, True])

    def test_bad_ways(self):
        with self.assertRaises(BadWays) as caught:
            way_rest((2, ((0, 0),)))
        self.assertEqual(vars(caught.exception), {"part": "ways"})


class OneWayNetsTest(unittest.TestCase):

    def test_all_one_way_nets_of_up_to_three_halls(self):
        for halls in range(1, 4):
            for net in one_ways_of(halls):
                self.assertIs(is_one_way(net), True, net)
                other = way_rest(net)
                self.assertIs(is_one_way(other), True, net)
                self.assertEqual(other[0], halls)
                self.assertEqual(sorted(net[1] + other[1]), ways_of(halls))
                self.assertEqual(list(other[1]), sorted(other[1]))
                self.assertEqual(way_rest(other), net)

    def test_no_ways_and_all_ways(self):
        for halls in range(1, 10):
            none, every = (halls, ()), (halls, tuple(ways_of(halls)))
            self.assertEqual([is_one_way(none), is_one_way(every)], [True, True])
            self.assertEqual([way_rest(none), way_rest(every)], [every, none])

    def test_kinds_of_answers(self):
        other = way_rest((9, ((0, 8), (8, 0))))
        self.assertIs(type(other), tuple)
        self.assertIs(type(other[1]), tuple)
        self.assertTrue(all(type(way) is tuple for way in other[1]))
        self.assertEqual(len(other[1]), 70)

    def test_no_one_way_nets(self):
        for part, values in NO_ONE_WAYS.items():
            for value in values:
                with self.subTest(value=value):
                    before = copy.deepcopy(value)
                    self.assertIs(is_one_way(value), False)
                    for asked in (way_rest, way_turn):
                        with self.assertRaises(BadWays) as caught:
                            asked(value)
                        self.assertEqual(vars(caught.exception), {"part": part})
                    for shown in (None, (0,), (1, 0), [], "turn", True):
                        with self.assertRaises(BadWays) as caught:
                            shows_way_turn(value, shown)
                        self.assertEqual(caught.exception.part, part)
                    self.assertEqual(repr(value), repr(before))

    def test_ways_to_and_fro(self):
        for net in ((2, ((1, 0),)), (4, ((0, 1), (1, 0))), (4, ((0, 1), (2, 1))), (9, ((8, 0), (8, 7)))):
            self.assertIs(is_one_way(net), True, net)


class LeadsWaysTest(unittest.TestCase):

    def test_all_one_way_nets_by_all_turns_of_up_to_three_halls(self):
        others = [turn for halls in range(1, 5) for turn in turns_of(halls)]
        for halls in range(1, 4):
            for net in one_ways_of(halls):
                leading = [turn for turn in turns_of(halls) if leads_ways_by_words(turn, net)]
                for turn in turns_of(halls):
                    self.assertIs(leads_ways(turn, net), turn in leading, (turn, net))
                for turn in others:
                    self.assertIs(shows_way_turn(net, turn), turn in leading, (turn, net))
                self.assertIs(shows_way_turn(net, None), not leading, net)
                found = way_turn(net)
                if leading:
                    self.assertIn(found, leading, net)
                else:
                    self.assertIsNone(found, net)
                self.assertIs(shows_way_turn(net, found), True, net)

    def test_one_way_nets_of_four_halls(self):
        for net in one_ways_of(4)[::5] + [LINE]:
            leading = [turn for turn in turns_of(4) if leads_ways_by_words(turn, net)]
            self.assertEqual([turn for turn in turns_of(4) if leads_ways(turn, net)], leading, net)
            found = way_turn(net)
            self.assertEqual(found is None, not leading, net)
            self.assertIn(found, leading or [None], net)

    def test_one_hall(self):
        net = (1, ())
        self.assertEqual([leads_ways((0,), net), way_turn(net), way_rest(net)], [True, (0,), net])
        self.assertEqual([shows_way_turn(net, (0,)), shows_way_turn(net, None)], [True, False])

    def test_a_line_is_led_by_turning_it_round(self):
        for halls in range(1, 10):
            line = (halls, tuple((x, y) for x in range(halls) for y in range(x + 1, halls)))
            self.assertEqual(way_turn(line), tuple(reversed(range(halls))))
            self.assertIs(leads_ways(tuple(reversed(range(halls))), line), True)
            self.assertIs(leads_ways((*range(1, halls), 0), line), halls < 3)

    def test_unlike(self):
        for turn, net in (((0,), (2, ())), ((1, 0), (1, ())), ((0, 2, 1), LINE), (tuple(range(9)), CIRCLE),
                          ((0,), (9, ()))):
            with self.assertRaises(Unlike) as caught:
                leads_ways(turn, net)
            self.assertEqual(vars(caught.exception), {})

    def test_wrong_turn_comes_first(self):
        for turn in NO_TURNS:
            for net in (CIRCLE, (1, ()), (9, ()), (4, []), (10, ()), None, "net", [4, ()]):
                with self.subTest(turn=turn, net=net), self.assertRaises(BadTurn):
                    leads_ways(turn, net)

    def test_wrong_net_beside_a_right_turn(self):
        for part, values in NO_ONE_WAYS.items():
            for net in values:
                for turn in ((0,), (1, 0), (1, 2, 3, 0), tuple(range(9))):
                    before = copy.deepcopy(net)
                    with self.subTest(turn=turn, net=net), self.assertRaises(BadWays) as caught:
                        leads_ways(turn, net)
                    self.assertEqual(caught.exception.part, part)
                    self.assertEqual(repr(net), repr(before))


class TurnsTest(unittest.TestCase):

    def test_no_turns(self):
        for asked in OF_A_TURN:
            for value in NO_TURNS:
                with self.subTest(asked=asked.__name__, value=value):
                    before = copy.deepcopy(value)
                    with self.assertRaises(BadTurn) as caught:
                        asked(value)
                    self.assertEqual(vars(caught.exception), {})
                    self.assertEqual(repr(value), repr(before))

    def test_all_turns_by_all_one_way_nets_of_up_to_four_halls(self):
        for halls in range(1, 5):
            nets = one_ways_of(halls)
            for turn in turns_of(halls):
                led = [net for net in nets if leads_ways_by_words(turn, net)]
                self.assertIs(can_lead_ways(turn), led != [], turn)
                self.assertEqual(count_led_ways(turn), len(led), turn)
                if led:
                    self.assertIn(led_ways(turn), led)
                else:
                    self.assertRaises(NoTurn, led_ways, turn)

    def test_no_turn(self):
        for turn in ((0, 1), (1, 2, 0), (0, 1, 3, 2), (1, 2, 0, 3), (1, 2, 0, 4, 3)):
            with self.assertRaises(NoTurn) as caught:
                led_ways(turn)
            self.assertEqual(vars(caught.exception), {})
            self.assertEqual([can_lead_ways(turn), count_led_ways(turn)], [False, 0])

    def test_one_hall(self):
        self.assertEqual([can_lead_ways((0,)), count_led_ways((0,)), led_ways((0,))], [True, 1, (1, ())])

    def test_kinds_of_answers(self):
        for turn in ((0,), (1, 0), (0, 1), (1, 2, 3, 0, 4)):
            self.assertIs(type(count_led_ways(turn)), int)
            self.assertIs(type(can_lead_ways(turn)), bool)
        net = led_ways((1, 2, 3, 0, 4))
        self.assertEqual([type(net), type(net[0]), type(net[1])], [tuple, int, tuple])

    def test_turns_of_up_to_nine_halls(self):
        for halls in range(4, 10):
            for lengths in ring_lengths(halls):
                for places in orders_of(halls):
                    self.check(lengths, turn_with_rings(lengths, places))

    def check(self, lengths, turn):
        lots = way_rings_by_joining(turn)
        odd = [length for length in lengths if length % 2 != 0]
        can = odd in ([], [1])
        # Ways and what are none take turns only in rings of an even number.
        self.assertEqual(can, all(len(lot) % 2 == 0 for lot in lots), turn)
        self.assertIs(can_lead_ways(turn), can, turn)
        self.assertEqual(count_led_ways(turn), 2 ** len(lots) if can else 0, turn)
        if not can:
            self.assertRaises(NoTurn, led_ways, turn)
            return
        net = led_ways(turn)
        self.assertIs(is_one_way(net), True, turn)
        self.assertIs(leads_ways(turn, net), True, turn)
        self.assertTrue(leads_ways_by_words(turn, net), turn)
        self.assertEqual(turned(turn, net[1]), frozenset(way_rest(net)[1]), turn)
        found = way_turn(net)
        self.assertTrue(leads_ways_by_words(found, net), (turn, found))
        self.assertIs(shows_way_turn(net, turn), True, turn)
        self.assertIs(shows_way_turn(net, found), True, turn)
        self.assertIs(shows_way_turn(net, None), False, turn)
        self.assertIs(shows_way_turn(net, list(turn)), False, turn)
        for way in ways_of(len(turn))[::7]:
            other = (net[0], tuple(sorted(set(net[1]) ^ {way})))
            self.assertIs(leads_ways(turn, other), False, (turn, other))
            # With an odd way more or less it has not half of all ways any longer.
            self.assertIsNone(way_turn(other), other)
            self.assertIs(shows_way_turn(other, turn), False, (turn, other))


class ShownTest(unittest.TestCase):

    def test_any_value_may_be_the_last_argument(self):
        led = led_ways((1, 2, 3, 0, 5, 6, 7, 4, 8))
        for net in (CIRCLE, LINE, (4, ()), (2, ()), (2, ((0, 1), (1, 0))), (9, ()), led):
            for value in NEVER_SHOWN:
                with self.subTest(net=net, value=value):
                    before = copy.deepcopy(value)
                    self.assertIs(shows_way_turn(net, value), False)
                    self.assertEqual(repr(value), repr(before))

    def test_no_turns_are_never_shown(self):
        for net in (LINE, (2, ((0, 1),)), (1, ()), (2, ())):
            for value in NO_TURNS:
                self.assertIs(shows_way_turn(net, value), value is None and net == (2, ()), (net, value))

    def test_turns_of_another_number_of_halls(self):
        for net in (LINE, (2, ((0, 1),)), (1, ()), led_ways((1, 2, 3, 4, 5, 6, 7, 0, 8))):
            for halls in range(1, 10):
                if halls != net[0]:
                    self.assertIs(shows_way_turn(net, tuple(reversed(range(halls)))), False, (net, halls))

    def test_equal_arguments_have_equal_answers(self):
        for net in one_ways_of(3):
            again = (net[0], tuple([tuple(list(way)) for way in net[1]]))
            before = copy.deepcopy(net)
            self.assertEqual(is_one_way(net), is_one_way(again))
            self.assertEqual(way_rest(net), way_rest(again))
            self.assertEqual(way_turn(net) is None, way_turn(again) is None)
            for turn in turns_of(3):
                self.assertEqual(leads_ways(turn, net), leads_ways(tuple(list(turn)), again))
                self.assertEqual(shows_way_turn(net, turn), shows_way_turn(again, tuple(list(turn))))
            self.assertEqual([net, again], [before, before])


if __name__ == "__main__":
    unittest.main()
