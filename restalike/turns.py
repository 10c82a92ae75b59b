"""Turns of the halls, their rings, and the nets that they lead to their rests."""

from restalike.errors import BadTurn, NoTurn, Unlike
from restalike.nets import MOST_HALLS, all_pairs, check_net, is_number


def is_turn(value):
    """Tell whether a value is a turn: a tuple of all of 1 to 9 halls, each once."""
    if not isinstance(value, tuple) or not 1 <= len(value) <= MOST_HALLS:
        return False
    for hall in value:
        if not is_number(hall, 0, len(value) - 1):
            return False
    return sorted(value) == list(range(len(value)))


def check_turn(value):
    """Raise BadTurn for anything but a turn."""
    if not is_turn(value):
        raise BadTurn()


def led_pair(turn, pair):
    """Return the pair to which a turn leads a pair of halls, the lesser hall first."""
    x, y = pair
    return min(turn[x], turn[y]), max(turn[x], turn[y])


def leads(turn, net):
    """Tell whether a turn leads a net of as many halls to its rest."""
    check_turn(turn)
    check_net(net)
    halls, pairs = net
    if len(turn) != halls:
        raise Unlike()
    for pair in all_pairs(halls):
        if (pair in pairs) == (led_pair(turn, pair) in pairs):
            return False
    return True


def ring_from(led, member):
    """Return the list of what a member is led to again and again, itself first."""
    ring = [member]
    after = led[member]
    while after != member:
        ring.append(after)
        after = led[after]
    return ring


def rings_of(led, members):
    """Return the list of the rings of members that are led to one another, each one from its least member on."""
    found = [ring_from(led, member) for member in members]
    # Each ring is found from every one of its members; the one from its least member stands for it.
    return [ring for ring in found if ring[0] == min(ring)]


def rings(turn):
    """Return the ascending tuple of the lengths of a turn's rings."""
    check_turn(turn)
    return tuple(sorted([len(ring) for ring in rings_of(turn, sorted(turn))]))


def divides_rings(number, turn):
    """Tell whether a number divides the lengths of all rings of a turn, but for one 1 at most."""
    others = [length for length in rings(turn) if length % number != 0]
    return not others or others == [1]


def can_lead(turn):
    """Tell whether a turn leads some net to its rest."""
    return divides_rings(4, turn)


def pair_rings(turn):
    """Return the list of a turn's rings of pairs, each one a list that begins with its least pair."""
    pairs = all_pairs(len(turn))
    return rings_of({pair: led_pair(turn, pair) for pair in pairs}, pairs)


def count_pair_rings(turn):
    """Return how many rings of pairs a turn has."""
    check_turn(turn)
    return len(pair_rings(turn))


def count_led(turn):
    """Return how many nets a turn leads to their rests."""
    if not can_lead(turn):
        return 0
    return 1 << count_pair_rings(turn)


def led_net(turn):
    """Return one of the nets that a turn leads to their rests."""
    if not can_lead(turn):
        raise NoTurn()
    # Joined and parted pairs take turns round a ring, so a net has every other pair of each.
    pairs = [pair for ring in pair_rings(turn) for pair in ring[::2]]
    return len(turn), tuple(sorted(pairs))


def led_nets(turn):
    """Return the ascending tuple of all nets that a turn leads to their rests."""
    if not can_lead(turn):
        return ()
    lots = [[]]
    for ring in pair_rings(turn):
        # Of each ring a net has one half or the other one.
        lots = [lot + half for lot in lots for half in (ring[::2], ring[1::2])]
    return tuple(sorted([(len(turn), tuple(sorted(lot))) for lot in lots]))
