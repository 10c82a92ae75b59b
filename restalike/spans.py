"""How far the halls of a net are from one another."""

from restalike.nets import both_ways, check_net


def distances_from(hall, halls, ways):
    """Return the tuple of the distances from a hall to all halls, by ways to and fro."""
    found = [None] * halls
    found[hall] = 0
    for far in range(1, halls):
        for x, y in ways:
            if found[x] == far - 1 and found[y] is None:
                found[y] = far
    return tuple(found)


def distances(net):
    """Return the tuple that tells for each hall of a net the tuple of the distances from it, None where none is."""
    check_net(net)
    halls, pairs = net
    ways = both_ways(pairs)
    return tuple([distances_from(hall, halls, ways) for hall in range(halls)])


def span(net):
    """Return the greatest of all distances of a net, None if no pairs lead from some hall to another one."""
    found = [far for row in distances(net) for far in row]
    if None in found:
        return None
    return max(found)
