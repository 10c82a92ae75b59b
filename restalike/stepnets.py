"""Steps round a wheel of halls, and the factors that lead them to all others."""

from math import gcd

from restalike.nets import ascends, check_number, is_number
from restalike.turns import rings_of

MOST_ON_WHEEL = 200


def is_factor(value, halls):
    """Tell whether a value is a factor on a wheel of so many halls."""
    return is_number(value, 1, halls) and gcd(value, halls) == 1


def are_steps(value, halls):
    """Tell whether a value is an ascending tuple of unlike steps, with those the other way round, on a wheel."""
    if not isinstance(value, tuple) or not all([is_number(step, 1, halls - 1) for step in value]):
        return False
    return ascends(value) and all([halls - step in value for step in value])


def leads_steps(factor, steps, halls):
    """Tell whether a factor leads steps on a wheel of so many halls to all others."""
    products = sorted([factor * step % halls for step in steps])
    return products == [step for step in range(1, halls) if step not in steps]


def lesser_way(step, halls):
    """Return a step, or the one the other way round a wheel if that is less."""
    return min(step, halls - step)


def step_rings(factor, halls):
    """Return the list of the rings of steps that a factor leads to one another, each step for both ways round."""
    steps = list(range(1, halls // 2 + 1))
    return rings_of({step: lesser_way(factor * step % halls, halls) for step in steps}, steps)


def can_lead_steps(factor, halls):
    """Tell whether a factor leads some steps on a wheel of so many halls to all others."""
    # Steps and what are none take turns round a ring, so it needs an even number.
    return all([len(ring) % 2 == 0 for ring in step_rings(factor, halls)])


def find_factor(halls):
    """Return the least factor that leads some steps on a wheel of so many halls to all others, None without any."""
    for factor in range(1, halls + 1):
        if is_factor(factor, halls) and can_lead_steps(factor, halls):
            return factor
    return None


def has_steps(halls):
    """Tell whether a factor leads some steps on a wheel of so many halls to all others."""
    check_number(halls, MOST_ON_WHEEL)
    # Products of numbers that leave 1 by four leave 1, too, so not only the primes may be asked but all divisors.
    return all([divisor % 4 == 1 for divisor in range(1, halls + 1) if halls % divisor == 0])


def rest_steps(halls):
    """Return a pair of steps on a wheel of so many halls and a factor that leads them to all others, None without."""
    # To try all factors in vain takes much longer than to ask this first.
    if not has_steps(halls):
        return None
    factor = find_factor(halls)
    lesser = [step for ring in step_rings(factor, halls) for step in ring[::2]]
    return tuple(sorted(lesser + [halls - step for step in lesser])), factor


def shows_rest_steps(halls, value):
    """Tell whether a value is what rest_steps may return for so many halls."""
    check_number(halls, MOST_ON_WHEEL)
    if value is None:
        return not has_steps(halls)
    if not isinstance(value, tuple) or len(value) != 2:
        return False
    steps, factor = value
    return are_steps(steps, halls) and is_factor(factor, halls) and leads_steps(factor, steps, halls)
