"""One-way nets, their rests, and the turns that lead them there."""

from restalike.errors import BadWays, NoTurn, Unlike
from restalike.nets import are_ways, wrong_frame
from restalike.searches import find_turn
from restalike.turns import check_turn, divides_rings, is_turn, rings_of


def wrong_part(value):
    """Return the word for what is wrong first with a value as a one-way net, None for a one-way net."""
    part = wrong_frame(value)
    if part is not None:
        return part
    halls, ways = value
    if not are_ways(ways, halls):
        return "ways"
    return None


def check_one_way(value):
    """Raise BadWays for anything but a one-way net."""
    part = wrong_part(value)
    if part is not None:
        raise BadWays(part)


def is_one_way(value):
    """Tell whether a value is a one-way net."""
    return wrong_part(value) is None


def all_ways(halls):
    """Return the list of all ways of so many halls, ascending."""
    return [(x, y) for x in range(halls) for y in range(halls) if x != y]


def way_rest(net):
    """Return the one-way net of as many halls with just the ways that a one-way net doesn't have."""
    check_one_way(net)
    halls, ways = net
    return halls, tuple([way for way in all_ways(halls) if way not in ways])


def led_way(turn, way):
    """Return the way to which a turn leads a way."""
    x, y = way
    return turn[x], turn[y]


def leads_ways(turn, net):
    """Tell whether a turn leads a one-way net of as many halls to its rest."""
    check_turn(turn)
    check_one_way(net)
    halls, ways = net
    if len(turn) != halls:
        raise Unlike()
    for way in all_ways(halls):
        if (way in ways) == (led_way(turn, way) in ways):
            return False
    return True


def can_lead_ways(turn):
    """Tell whether a turn leads some one-way net to its rest."""
    return divides_rings(2, turn)


def way_rings(turn):
    """Return the list of a turn's rings of ways, each one a list that begins with its least way."""
    ways = all_ways(len(turn))
    return rings_of({way: led_way(turn, way) for way in ways}, ways)


def count_led_ways(turn):
    """Return how many one-way nets a turn leads to their rests."""
    if not can_lead_ways(turn):
        return 0
    return 1 << len(way_rings(turn))


def led_ways(turn):
    """Return one of the one-way nets that a turn leads to their rests."""
    if not can_lead_ways(turn):
        raise NoTurn()
    # Ways and what are none take turns round a ring, so a net has every other way of each.
    ways = [way for ring in way_rings(turn) for way in ring[::2]]
    return len(turn), tuple(sorted(ways))


def way_turn(net):
    """Return a turn that leads a one-way net to its rest, None without any."""
    check_one_way(net)
    halls, ways = net
    return find_turn(halls, ways)


def shows_way_turn(net, value):
    """Tell whether a value is what way_turn may return for a one-way net."""
    check_one_way(net)
    if value is None:
        return way_turn(net) is None
    return is_turn(value) and len(value) == net[0] and leads_ways(value, net)
