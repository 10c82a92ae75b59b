"""What point 1 promises over all functions together: errors and their order, arguments, answers."""

import copy
import itertools
import unittest

from plain import NEVER_SHOWN, NO_HALLS, NO_NETS, NO_ONE_WAYS, NO_TEXTS, NO_TURNS, no_numbers
from restalike import counts, desks, nets, nettexts, onewaynets, restturns, spans, stepnets, turns
from restalike.errors import (
    BadLine, BadNet, BadNumber, BadPair, BadText, BadTurn, BadWays, NoTurn, RestError, Unlike)

# The kinds of arguments of each function; "any" stands for the last ones, for which any value will do.
ARGUMENTS = {
    nets.is_net: ("any",), nets.rest: ("net",), nets.friends: ("net",),
    turns.leads: ("turn", "net"), turns.can_lead: ("turn",), turns.rings: ("turn",), turns.led_nets: ("turn",),
    turns.count_pair_rings: ("turn",), turns.count_led: ("turn",), turns.led_net: ("turn",),
    restturns.rest_turn: ("net",), restturns.is_restalike: ("net",), restturns.shows_rest_turn: ("net", "any"),
    counts.count_unlike: ("to 40",), counts.count_unlike_ways: ("to 40",), counts.has_restalike: ("to 40",),
    onewaynets.is_one_way: ("any",), onewaynets.leads_ways: ("turn", "one-way net"),
    onewaynets.can_lead_ways: ("turn",), onewaynets.shows_way_turn: ("one-way net", "any"),
    onewaynets.way_rest: ("one-way net",), onewaynets.led_ways: ("turn",), onewaynets.count_led_ways: ("turn",),
    onewaynets.way_turn: ("one-way net",),
    spans.distances: ("net",), spans.span: ("net",),
    stepnets.rest_steps: ("to 200",), stepnets.has_steps: ("to 200",), stepnets.shows_rest_steps: ("to 200", "any"),
    desks.Desk: ("to 9",), nettexts.write_net: ("net",), nettexts.read_net: ("text",),
}

# Those whose answers may be any such ones, or objects.
ANY_SUCH = (turns.led_net, restturns.rest_turn, onewaynets.led_ways, onewaynets.way_turn, stepnets.rest_steps,
            desks.Desk)

RIGHT = {
    "net": ((1, ()), (4, ((0, 1), (1, 2), (2, 3))), (5, ()), (9, ((0, 8), (7, 8)))),
    "one-way net": ((1, ()), (2, ((1, 0),)), (4, ((0, 1), (1, 0), (3, 2))), (9, ())),
    "turn": ((0,), (1, 0), (1, 2, 3, 0), (1, 3, 0, 2), (0, 1, 2), (1, 2, 3, 0, 4), tuple(range(9))),
    "to 9": (1, 4, 9), "to 40": (1, 2, 4, 39, 40), "to 200": (1, 5, 9, 40, 41, 199, 200),
    "text": ("halls 3\npairs 02", "halls 1\n\n pairs", "\nhalls 9\npairs 08 78\n"),
    "any": (None, (1, 3, 0, 2), (0,), ((1, 4), 2), (4, ((0, 1), (1, 2), (2, 3))), (2, ((1, 0),))) + NEVER_SHOWN,
}


def wrong_values(kind):
    """Values that are wrong for a kind of argument, each beside the error for it and that one's fields."""
    if kind in ("net", "one-way net"):
        error, by_part = (BadNet, NO_NETS) if kind == "net" else (BadWays, NO_ONE_WAYS)
        return [(value, error, {"part": part}) for part, values in by_part.items() for value in values]
    if kind == "turn":
        return [(value, BadTurn, {}) for value in NO_TURNS]
    if kind == "text":
        lines = [("halls 3\npairs 20", 2, 2), ("", 2, 1), ("halls 0", 1, 2), ("halls 3\npairs\nx", 3, 1)]
        return [(value, BadText, {}) for value in NO_TEXTS] + [
            (text, BadLine, {"line": line, "word": word}) for text, line, word in lines]
    if kind == "any":
        return []
    return [(value, BadNumber, {}) for value in no_numbers(int(kind.split(" ")[1]))]


def some_values(kind):
    """A few values of a kind of argument, right and wrong ones."""
    return [*RIGHT[kind][:4], *[value for value, _, _ in wrong_values(kind)[::9]], None, True, "net", [4, ()]]


def answer(asked, arguments):
    """What a function returns or raises, so that it can be compared."""
    try:
        return repr(asked(*arguments))
    except RestError as error:
        return type(error), vars(error)


class WholeTest(unittest.TestCase):

    def test_error_of_the_leftmost_wrong_argument(self):
        for asked, kinds in ARGUMENTS.items():
            for at, kind in enumerate(kinds):
                before = itertools.product(*[RIGHT[other][:3] for other in kinds[:at]])
                behind = itertools.product(*[some_values(other) for other in kinds[at + 1:]])
                for first, last in itertools.product(list(before), list(behind)):
                    for value, error, fields in wrong_values(kind):
                        self.check(asked, (*first, value, *last), error, fields)

    def check(self, asked, arguments, error, fields):
        # Not a subTest for each, of which there are very many.
        try:
            asked(*arguments)
        except RestError as caught:
            self.assertEqual([type(caught), vars(caught)], [error, fields], (asked.__name__, arguments))
        else:
            self.fail((asked.__name__, arguments))

    def test_unlike_and_no_turn_come_last(self):
        for leads, kind in ((turns.leads, "net"), (onewaynets.leads_ways, "one-way net")):
            for turn in RIGHT["turn"]:
                for net in RIGHT[kind]:
                    if len(turn) != net[0]:
                        self.check(leads, (turn, net), Unlike, {})
                    else:
                        self.assertIn(leads(turn, net), (True, False))
        for led in (turns.led_net, onewaynets.led_ways):
            for turn in ((0, 1), (1, 2, 0), (0, 1, 3, 2), (1, 2, 0, 4, 5, 3), tuple(range(9))):
                self.check(led, (turn,), NoTurn, {})

    def test_right_arguments_raise_nothing_else(self):
        for asked, kinds in ARGUMENTS.items():
            for arguments in itertools.product(*[RIGHT[kind] for kind in kinds]):
                found = answer(asked, arguments)
                if type(found) is not str:
                    self.assertIn(found[0], (Unlike, NoTurn), (asked.__name__, arguments))
                    self.assertIn(asked.__name__, ("leads", "leads_ways", "led_net", "led_ways"))

    def test_no_argument_is_modified_and_equal_ones_have_equal_answers(self):
        for asked, kinds in ARGUMENTS.items():
            lots = [[*RIGHT[kind], *[value for value, _, _ in wrong_values(kind)[::5]]] for kind in kinds]
            for arguments in itertools.product(*lots):
                again = copy.deepcopy(arguments)
                shown = repr(arguments)
                first, second = answer(asked, arguments), answer(asked, again)
                self.assertEqual([repr(arguments), repr(again)], [shown, shown], asked.__name__)
                if asked not in ANY_SUCH:
                    self.assertEqual(first, second, (asked.__name__, arguments))

    def test_whether_functions_tell_true_or_false(self):
        for asked in (turns.leads, turns.can_lead, nets.is_net, restturns.is_restalike, restturns.shows_rest_turn,
                      counts.has_restalike, onewaynets.is_one_way, onewaynets.leads_ways, onewaynets.can_lead_ways,
                      onewaynets.shows_way_turn, stepnets.has_steps, stepnets.shows_rest_steps):
            for arguments in itertools.product(*[RIGHT[kind] for kind in ARGUMENTS[asked]]):
                found = answer(asked, arguments)
                self.assertIn(found, ("True", "False", (Unlike, {})), (asked.__name__, arguments))

    def test_shows_any_such_answer(self):
        for asked, shows in ((restturns.rest_turn, restturns.shows_rest_turn),
                             (onewaynets.way_turn, onewaynets.shows_way_turn),
                             (stepnets.rest_steps, stepnets.shows_rest_steps)):
            for value in RIGHT[ARGUMENTS[asked][0]]:
                self.assertIs(shows(value, asked(value)), True, (asked.__name__, value))

    def test_desks(self):
        for one, other in itertools.product([0, 3, *NO_HALLS], [1, 3, *NO_HALLS]):
            desk = desks.Desk(4)
            values = copy.deepcopy([one, other])
            found = answer(desk.turn_over, (one, other))
            # 1 and True are equal, but True is no hall.
            right = type(one) is type(other) is int and one in (0, 3) and other in (0, 1, 3) and one != other
            self.assertEqual(found, "None" if right else (BadPair, {}), (one, other))
            self.assertEqual(repr([one, other]), repr(values))

    def test_every_function_of_the_interface_is_asked(self):
        names = {asked.__module__ + "." + asked.__name__ for asked in ARGUMENTS}
        self.assertEqual(len(names), len(ARGUMENTS))
        self.assertEqual(len(names), 32)


if __name__ == "__main__":
    unittest.main()
