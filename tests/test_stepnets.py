import copy
import unittest
from itertools import combinations

from plain import no_numbers
from restalike.errors import BadNumber
from restalike.stepnets import has_steps, rest_steps, shows_rest_steps

# Values that are not what rest_steps may return for any number of halls.
NEVER_SHOWN = (
    True, False, 0, 1, 5, -1, 10 ** 30, "", "14", "steps", "None", (), ((),), ((), ()), ((), None), (None, 1),
    (None, None), [], [None], (None,), {}, {0: (1, 4), 1: 2}, {(1, 4): 2}, ((), 0), ((), True), ((), "1"), ([], 1),
    ((), [1]), ({}, 1), ("", 1), (0, 1), (1, ()), ((), (1,)), ((), 1, 1), [(), 1], (((), 1),), ((), 1, None),
)

# Values that are not what rest_steps may return for five halls: ((1, 4), 2) and ((2, 3), 3), say, are.
NOT_OF_FIVE = (
    [(1, 4), 2], ([1, 4], 2), [[1, 4], 2], {(1, 4): 2}, ((1, 4),), ((1, 4), 2, 2), ((1, 4), (2,)), (2, (1, 4)),
    ((1, 4), 1), ((1, 4), 4), ((1, 4), 5), ((1, 4), 0), ((1, 4), -2), ((1, 4), -3), ((1, 4), 6), ((1, 4), 7),
    ((1, 4), 8), ((1, 4), 12), ((1, 4), 10 ** 30), ((1, 4), 5 * 10 ** 30 + 2), ((1, 4), None), ((1, 4), "2"),
    ((1, 4), True), ((1, 4), False), ((1, 4), [2]), ((1, 4), {}),
    ((4, 1), 2), ((1, 1, 4), 2), ((1, 4, 4), 2), ((1, 1, 4, 4), 2), ((1,), 2), ((4,), 2), ((1, 2), 2), ((3, 4), 2),
    ((1, 3), 2), ((2, 4), 3), ((), 2), ((), 1), ((1, 2, 3, 4), 2), ((1, 2, 3), 2), ((0, 1, 4), 2), ((1, 4, 5), 2),
    ((0, 1, 4, 5), 2), ((-1, 1), 2), ((-4, -1), 2), ((1, 9), 2), ((6, 9), 2), ((-1, 6), 2), ((0, 5), 2),
    ((True, 4), 2), ((True, 4), True), ((1, "4"), 2), (("1", "4"), 2), ((1, None), 2), ((None, 4), 2), ("14", 2),
    ((1, (4,)), 2), (((1, 4),), 2), ((1, [4]), 2), ((1, {}), 2), (14, 2), (None, 2), (True, 2), ({1: 4}, 2),
    ({1: 1, 4: 4}, 2), ((1, 10 ** 30), 2), "((1, 4), 2)", 142, (1, 4), (1, 4, 2), ((1, 4), ((1, 4), 2)),
    (((1, 4), 2),),
)


def primes_of(halls):
    return [
        number for number in range(2, halls + 1)
        if halls % number == 0 and not any(number % less == 0 for less in range(2, number))]


def common_divisors(factor, halls):
    return [number for number in range(1, halls + 1) if factor % number == 0 and halls % number == 0]


def leads_by_words(halls, steps, factor):
    """Whether what point 8 asks of steps and a factor holds of a tuple of integers and an integer."""
    if list(steps) != sorted(set(steps)) or any(not 1 <= step <= halls - 1 for step in steps):
        return False
    if any(halls - step not in steps for step in steps):
        return False
    if not 1 <= factor <= halls or common_divisors(factor, halls) != [1]:
        return False
    others = set(range(1, halls)) - set(steps)
    return set(factor * step % halls for step in steps) == others


def steps_of(halls):
    """All steps round a wheel of so many halls."""
    lots = [set()]
    for step in range(1, halls // 2 + 1):
        lots = lots + [lot | {step, halls - step} for lot in lots]
    return [tuple(sorted(lot)) for lot in lots]


def tuples_of(halls):
    """All ascending tuples of integers from 0 to halls, steps or not."""
    return [lot for many in range(halls + 2) for lot in combinations(range(halls + 1), many)]


class ExamplesTest(unittest.TestCase):

    def test_wheels(self):
        self.assertEqual(
            [[halls for halls in range(1, 30) if has_steps(halls)], shows_rest_steps(5, ((1, 4), 2)),
             shows_rest_steps(5, ((1, 4), 4)), rest_steps(9)],
            [[1, 5, 13, 17, 25, 29], True, False, None])


class StepsTest(unittest.TestCase):

    def test_every_number_of_halls(self):
        for halls in range(1, 201):
            has = all(prime % 4 == 1 for prime in primes_of(halls))
            self.assertIs(has_steps(halls), has, halls)
            found = rest_steps(halls)
            self.assertIs(found is None, not has, halls)
            self.assertIs(shows_rest_steps(halls, found), True, halls)
            self.assertIs(shows_rest_steps(halls, None), not has, halls)
            if has:
                steps, factor = found
                self.assertTrue(leads_by_words(halls, steps, factor), (halls, found))
                self.assertEqual(len(steps), (halls - 1) // 2)
                self.assertEqual([type(found), type(steps), type(factor)], [tuple, tuple, int])
                self.assertTrue(all(type(step) is int for step in steps))

    def test_one_hall(self):
        self.assertEqual([has_steps(1), rest_steps(1)], [True, ((), 1)])
        self.assertIs(shows_rest_steps(1, ((), 1)), True)
        for value in (None, ((), 0), ((), 2), ((), -1), ((), True), ([], 1), ((0,), 1), ((1,), 1), ((), 1, 1), [(), 1]):
            self.assertIs(shows_rest_steps(1, value), False, value)

    def test_all_steps_by_all_factors(self):
        for halls in range(1, 18):
            shown = False
            for steps in steps_of(halls):
                for factor in range(-1, halls + 4):
                    leads = leads_by_words(halls, steps, factor)
                    self.assertIs(shows_rest_steps(halls, (steps, factor)), leads, (halls, steps, factor))
                    shown = shown or leads
            self.assertIs(has_steps(halls), shown, halls)
            self.assertIs(rest_steps(halls) is None, not shown, halls)

    def test_all_tuples_by_all_factors(self):
        for halls in range(1, 9):
            for steps in tuples_of(halls):
                for factor in range(halls + 3):
                    leads = leads_by_words(halls, steps, factor)
                    self.assertIs(shows_rest_steps(halls, (steps, factor)), leads, (halls, steps, factor))

    def test_factors_with_a_divisor_of_halls(self):
        steps, _ = rest_steps(25)
        for factor in (5, 10, 15, 20, 25):
            self.assertIs(shows_rest_steps(25, (steps, factor)), False, factor)
        steps, _ = rest_steps(65)
        for factor in (5, 10, 13, 26, 39, 60, 65):
            self.assertIs(shows_rest_steps(65, (steps, factor)), False, factor)

    def test_greater_wheels(self):
        for halls in (25, 65, 85, 125, 169, 185, 197):
            steps, factor = rest_steps(halls)
            others = tuple(sorted(set(range(1, halls)) - set(steps)))
            self.assertIs(shows_rest_steps(halls, (others, factor)), True, halls)
            self.assertIs(shows_rest_steps(halls, (others, halls - factor)), True, halls)
            self.assertIs(shows_rest_steps(halls, (others, factor + halls)), False, halls)
            self.assertIs(shows_rest_steps(halls, (others, factor - halls)), False, halls)
            self.assertIs(shows_rest_steps(halls, (steps, 1)), False, halls)
            self.assertIs(shows_rest_steps(halls, (steps, halls - 1)), False, halls)
            self.assertIs(shows_rest_steps(halls, (steps[::-1], factor)), False, halls)
            self.assertIs(shows_rest_steps(halls, (steps[1:-1], factor)), False, halls)
            self.assertIs(shows_rest_steps(halls, (list(steps), factor)), False, halls)
            self.assertIs(shows_rest_steps(halls, [steps, factor]), False, halls)


class ShownTest(unittest.TestCase):

    def check_never(self, halls, values):
        for value in values:
            with self.subTest(halls=halls, value=value):
                before = copy.deepcopy(value)
                self.assertIs(shows_rest_steps(halls, value), False)
                self.assertEqual(repr(value), repr(before))

    def test_five_halls(self):
        for value in (((1, 4), 2), ((1, 4), 3), ((2, 3), 2), ((2, 3), 3)):
            self.assertIs(shows_rest_steps(5, value), True, value)
        self.check_never(5, NOT_OF_FIVE)

    def test_any_value_may_be_the_last_argument(self):
        for halls in (1, 2, 4, 5, 9, 13, 200):
            self.check_never(halls, NEVER_SHOWN)
        self.check_never(1, [value for value in NOT_OF_FIVE if value != ((), 1)])
        for halls in (2, 4, 9, 13, 200):
            self.check_never(halls, NOT_OF_FIVE)
            self.check_never(halls, (((1, 4), 2), ((1, 4), 3), ((2, 3), 2), ((2, 3), 3)))


class WrongValuesTest(unittest.TestCase):

    def test_no_numbers(self):
        for value in no_numbers(200):
            for asked in (has_steps, rest_steps):
                self.assertRaises(BadNumber, asked, value)
            for shown in (None, ((1, 4), 2), ((), 1), [], "steps", True, 5):
                self.assertRaises(BadNumber, shows_rest_steps, value, shown)

    def test_limits(self):
        self.assertEqual([has_steps(197), has_steps(199), has_steps(200)], [True, False, False])
        for asked in (has_steps, rest_steps):
            self.assertRaises(BadNumber, asked, 201)
            self.assertRaises(BadNumber, asked, 0)

    def test_equal_arguments_have_equal_answers(self):
        for halls in range(1, 201):
            self.assertIs(has_steps(halls), has_steps(int(str(halls))))
            self.assertIs(rest_steps(halls) is None, rest_steps(int(str(halls))) is None)
        value = ((1, 4), 2)
        again = (tuple([1, 4]), 2)
        self.assertIs(shows_rest_steps(5, value), shows_rest_steps(5, again))
        self.assertEqual([value, again], [((1, 4), 2)] * 2)


if __name__ == "__main__":
    unittest.main()
