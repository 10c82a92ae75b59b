"""Nets: halls, some of them joined two by two, and the rests of nets."""

from restalike.errors import BadNet, BadNumber

MOST_HALLS = 9


def is_number(value, least, most):
    """Tell whether a value is an integer from least to most."""
    # To Python True and False are integers, to the package they are not.
    if isinstance(value, bool) or not isinstance(value, int):
        return False
    return least <= value <= most


def check_number(value, most):
    """Raise BadNumber for anything but an integer from 1 to most."""
    if not is_number(value, 1, most):
        raise BadNumber()


def all_pairs(halls):
    """Return the list of all pairs of so many halls, ascending."""
    return [(x, y) for x in range(halls) for y in range(x + 1, halls)]


def both_ways(pairs):
    """Return the tuple of the ways to and fro between the halls of pairs."""
    return pairs + tuple([(y, x) for x, y in pairs])


def is_way(value, halls):
    """Tell whether a value is a pair of two unlike ones of so many halls, in any order."""
    if not isinstance(value, tuple) or len(value) != 2:
        return False
    x, y = value
    return is_number(x, 0, halls - 1) and is_number(y, 0, halls - 1) and x != y


def ascends(members):
    """Tell whether members ascend, none of them twice."""
    return all([members[at - 1] < members[at] for at in range(1, len(members))])


def are_ways(value, halls):
    """Tell whether a value is an ascending tuple of unlike ways of so many halls."""
    return isinstance(value, tuple) and all([is_way(way, halls) for way in value]) and ascends(value)


def are_pairs(value, halls):
    """Tell whether a value is an ascending tuple of unlike pairs of so many halls, the lesser ones first."""
    return are_ways(value, halls) and all([x < y for x, y in value])


def wrong_frame(value):
    """Return the word for what is wrong with a value as a pair that begins with a number of halls, None for one."""
    if not isinstance(value, tuple) or len(value) != 2:
        return "whole"
    if not is_number(value[0], 1, MOST_HALLS):
        return "halls"
    return None


def wrong_part(value):
    """Return the word for what is wrong first with a value as a net, None for a net."""
    part = wrong_frame(value)
    if part is not None:
        return part
    halls, pairs = value
    if not are_pairs(pairs, halls):
        return "pairs"
    return None


def check_net(value):
    """Raise BadNet for anything but a net."""
    part = wrong_part(value)
    if part is not None:
        raise BadNet(part)


def is_net(value):
    """Tell whether a value is a net."""
    return wrong_part(value) is None


def rest(net):
    """Return the net of as many halls with just the pairs that a net doesn't have."""
    check_net(net)
    halls, pairs = net
    return halls, tuple([pair for pair in all_pairs(halls) if pair not in pairs])


def friends(net):
    """Return the tuple of how many halls each hall of a net is joined to."""
    check_net(net)
    halls, pairs = net
    counts = [0] * halls
    for x, y in pairs:
        counts[x] += 1
        counts[y] += 1
    return tuple(counts)
