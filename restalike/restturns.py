"""The turns that lead given nets to their rests."""

from restalike.nets import both_ways, check_net
from restalike.searches import find_turn
from restalike.turns import is_turn, leads


def rest_turn(net):
    """Return a turn that leads a net to its rest, None without any."""
    check_net(net)
    halls, pairs = net
    return find_turn(halls, both_ways(pairs))


def is_restalike(net):
    """Tell whether some turn leads a net to its rest."""
    return rest_turn(net) is not None


def shows_rest_turn(net, value):
    """Tell whether a value is what rest_turn may return for a net."""
    check_net(net)
    if value is None:
        return not is_restalike(net)
    return is_turn(value) and len(value) == net[0] and leads(value, net)
