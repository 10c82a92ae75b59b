"""What the document says of nets and turns, worked out another way than the package does."""

from itertools import combinations, permutations

# Values that are no turns, for every function that takes one.
NO_TURNS = (
    [0], [1, 0], [1, 2, 3, 0],
    (),
    tuple(range(10)), (1, 2, 3, 4, 5, 6, 7, 8, 9, 0), tuple(range(200)),
    (0, 0), (1, 1), (0, 1, 2, 1), (3, 3, 3, 3),
    (1,), (1, 2), (0, 2), (-1,), (0, -1), (0, 1, 2, 4), (9, 0, 1, 2, 3, 4, 5, 6, 7), (10 ** 30, 0),
    (True,), (False,), (True, 0), (True, False), (0, True), (1, False), (False, 1, 2), (0, 1, 2, True),
    (None,), ("0",), (0, "1"), (0, None), ((0,),), ((), 0), (0, [1]), ([], []), ({}, 0), ((1, 0), 0), ("a", "b"),
    None, True, False, 0, 1, 4, -1, "", "0", "01", "1230", "turn",
    {}, {0: 0}, {0: 1, 1: 0}, [], [()], ((1, 0),), ((0, 1), (1, 0)), (4, ()),
)

# Values that are no nets, for every function that takes one, by the word for what is wrong first.
NO_NETS = {
    "whole": (
        None, True, False, 0, 4, "", "ab", "net", {}, {4: ()}, {0: 4, 1: ()}, [], [4, ()], [4, ((0, 1),)],
        (), (4,), ((4, ()),), (4, (), ()), (4, ((0, 1),), ()), (4, (0, 1), (1, 2)), (0,), (0, [], None), ([], [], []),
    ),
    "halls": (
        (0, ()), (10, ()), (-1, ()), (10 ** 30, ()), (True, ()), (False, ()), ("4", ()), ("", ()), (None, ()),
        ((), ()), ((4,), ()), ([4], ()), ({}, ()), ((), 4), (0, None), (10, []), (True, ((0, 1),)), ("4", "pairs"),
        (None, None), (0, ((1, 0),)), (10, ((0, 9),)), (True, ((0, 0),)),
    ),
    "pairs": (
        (4, []), (4, [(0, 1)]), (4, None), (4, True), (4, 0), (4, ""), (4, "01"), (4, {}), (4, {(0, 1): True}),
        (4, (0, 1)), (4, (None,)), (4, ("01",)), (4, ([0, 1],)), (4, ((0, 1), [1, 2])), (4, ({0: 1},)),
        (4, ((),)), (4, ((0,),)), (4, ((0, 1, 2),)), (4, ((0, 1), (1, 2, 3))), (4, ((0, 1), 2)), (4, (2, (0, 1))),
        (4, ((1, 2), (0, 1))), (4, ((0, 2), (0, 1))), (4, ((0, 1), (2, 3), (1, 2))),
        (4, ((0, 1), (0, 1))), (4, ((0, 1), (0, 2), (0, 2))),
        (2, ((1, 0),)), (4, ((0, 1), (2, 1))), (4, ((0, 1), (1, 0))), (2, ((1, 1),)), (1, ((0, 0),)), (4, ((0, 0),)),
        (1, ((0, 1),)), (2, ((0, 2),)), (4, ((3, 4),)), (9, ((0, 9),)), (9, ((8, 9),)), (4, ((-1, 0),)),
        (4, ((-2, -1),)), (4, ((0, 10 ** 30),)), (4, ((4, 5),)),
        (4, ((0, True),)), (4, ((False, 1),)), (4, ((False, True),)), (4, ((True, 2),)), (4, ((0, 1), (True, 3))),
        (4, ((0, None),)), (4, ((None, 1),)), (4, (("0", "1"),)), (4, ((0, "1"),)), (4, ((0, (1,)),)),
        (4, (((0, 1),),)), (4, (((), ()),)), (4, ((0, [1]),)), (4, (([], {}),)),
    ),
}

# Values that are no one-way nets, for every function that takes one, by the word for what is wrong first.
NO_ONE_WAYS = {
    "whole": (*NO_NETS["whole"], [2, ((0, 1),)], (2, ((0, 1),), ((1, 0),)), (2, (0, 1), (1, 0))),
    "halls": (*NO_NETS["halls"], (0, ((0, 0),)), (10, ((9, 0),)), (True, ((1, 0),)), ("2", ((1, 0),)), ([], ((1, 0),))),
    "ways": (
        (4, []), (4, [(1, 0)]), (4, None), (4, True), (4, 0), (4, ""), (4, "10"), (4, {}), (4, {(1, 0): True}),
        (4, (1, 0)), (4, (None,)), (4, ("10",)), (4, ([1, 0],)), (4, ((0, 1), [1, 0])), (4, ({1: 0},)),
        (4, ((),)), (4, ((1,),)), (4, ((2, 1, 0),)), (4, ((0, 1), (2, 1, 0))), (4, ((1, 0), 2)), (4, (2, (1, 0))),
        (4, ((1, 0), (0, 1))), (4, ((2, 0), (1, 0))), (4, ((1, 2), (1, 0))), (4, ((0, 1), (3, 2), (2, 3))),
        (4, ((1, 0), (1, 0))), (4, ((0, 1), (0, 1))), (4, ((0, 1), (1, 0), (1, 0))),
        (2, ((0, 0),)), (2, ((1, 1),)), (1, ((0, 0),)), (4, ((1, 0), (1, 1))), (4, ((3, 3),)),
        (1, ((0, 1),)), (1, ((1, 0),)), (2, ((2, 0),)), (2, ((0, 2),)), (4, ((4, 3),)), (4, ((3, 4),)),
        (9, ((9, 0),)), (9, ((8, 9),)), (4, ((-1, 0),)), (4, ((0, -1),)), (4, ((-1, -2),)), (4, ((10 ** 30, 0),)),
        (4, ((True, 0),)), (4, ((1, False),)), (4, ((True, False),)), (4, ((2, True),)), (4, ((1, 0), (3, True))),
        (4, ((0, True), (1, 0))), (4, ((None, 0),)), (4, ((1, None),)), (4, (("1", "0"),)), (4, (("1", 0),)),
        (4, (((1,), 0),)), (4, (((1, 0),),)), (4, (((), ()),)), (4, (([1], 0),)), (4, (([], {}),)),
    ),
}

# Values that are not what rest_turn and way_turn may return for any net of more than one hall.
NEVER_SHOWN = (
    True, False, 0, 1, 4, -1, 10 ** 30, "", "1230", "turn", "None", (), ((),), [], [None], (None,), {}, {0: 1, 1: 0},
    (True, False), (False, True), (1, False), (True, 0), ("1", "0"), (1, "0"), (None, None), ((1, 0), 0), ([1], [0]),
    ((1, 0),), (1, 0, None), (4, ()), (2, ((0, 1),)), (0, 0), (1, 1), (1, 2), (-1, 0), (10 ** 30, 0), ({}, []),
    (1, 3, 0, True), (True, 3, 0, 2), (1, 3, False, 2), (1, 3, 0, "2"), (1, 3, 0, 2, 4, 5, 6, 7, 8, 9), (0,),
    (0, 0, 0, 0), (1, 3, 0, 0), (1, 3, 0, 4), (1, 3, 0, -2), tuple(range(10)), tuple(range(200)), (1, 2, 3, 4),
)

# Values that are no numbers from 1 to anything.
NEVER_NUMBERS = (
    0, -1, -4, -40, 10 ** 30, -10 ** 30, True, False, None, "", "4", "5", "40", "halls", (), (4,), (5,), (4, 5), [],
    [4], {}, {4: 4}, (None,), (4, ()), ((),), "None", [None])

# Values that are no strings.
NO_TEXTS = (
    None, True, False, 0, 1, 3, -1, 10 ** 30, (), ("halls 3",), ("halls 3", "pairs"), (3, ()), (3, ((0, 1),)), [],
    ["halls 3", "pairs"], {}, {"halls": 3}, {"halls 3": "pairs"}, (None,), [[]])

# Values that are no halls of any net.
NO_HALLS = (-1, 9, 10, -9, 10 ** 30, True, False, None, "", "0", "1", "01", (), (0,), (0, 1), [], [0], {}, {0: 1})


def no_numbers(most):
    """Values that are no numbers from 1 to most."""
    return (*NEVER_NUMBERS, most + 1, most + 2, 2 * most, -most)


def pairs_of(halls):
    return list(combinations(range(halls), 2))


def nets_of(halls):
    """All nets of so many halls, ascending."""
    lots = []
    for many in range(len(pairs_of(halls)) + 1):
        lots.extend(combinations(pairs_of(halls), many))
    return [(halls, lot) for lot in sorted(lots)]


def turns_of(halls):
    return list(permutations(range(halls)))


def joined(net, x, y):
    return (x, y) in net[1] or (y, x) in net[1]


def leads_by_words(turn, net):
    """Any two halls are joined exactly if the two to which they are led aren't."""
    halls = range(net[0])
    return all(
        joined(net, x, y) == (not joined(net, turn[x], turn[y]))
        for x in halls for y in halls if x != y)


def rings_by_powers(turn):
    """The lengths of the rings, from the least number of times that brings each hall back."""
    lengths = {}
    for hall in range(len(turn)):
        times, now = 1, turn[hall]
        while now != hall:
            times, now = times + 1, turn[now]
        lengths[times] = lengths.get(times, 0) + 1
    found = []
    for times in lengths:
        found.extend([times] * (lengths[times] // times))
    return tuple(sorted(found))


def pair_rings_by_joining(turn):
    """The rings of pairs as lots that are put together as long as the turn leads one into another."""
    lot_of = {frozenset(pair): {frozenset(pair)} for pair in pairs_of(len(turn))}
    for pair in list(lot_of):
        led = frozenset(turn[hall] for hall in pair)
        if lot_of[led] is not lot_of[pair]:
            lot = lot_of[led] | lot_of[pair]
            for member in lot:
                lot_of[member] = lot
    return set(frozenset(lot) for lot in lot_of.values())


def ring_lengths(halls, least=1):
    """All ascending tuples of lengths of rings of so many halls."""
    if halls == 0:
        return [()]
    return [(first, *others) for first in range(least, halls + 1) for others in ring_lengths(halls - first, first)]


def turn_with_rings(lengths, places):
    """A turn with rings of such lengths, laid through the halls in the order of places."""
    turn = [None] * len(places)
    start = 0
    for length in lengths:
        ring = places[start:start + length]
        for at, hall in enumerate(ring):
            turn[hall] = ring[(at + 1) % length]
        start += length
    return tuple(turn)


def orders_of(halls):
    """Some orders of the halls, straight and mixed."""
    straight = list(range(halls))
    mixed = [place for place in [(5 * at + 3) % 9 for at in range(9)] if place < halls]
    return [straight, straight[::-1], straight[::2] + straight[1::2], mixed]


def ways_of(halls):
    return list(permutations(range(halls), 2))


def one_ways_of(halls):
    """All one-way nets of so many halls."""
    lots = [[]]
    for way in ways_of(halls):
        lots = lots + [[*lot, way] for lot in lots]
    return [(halls, tuple(lot)) for lot in lots]


def leads_ways_by_words(turn, net):
    """There is a way from one hall to another exactly if there is none between the two to which they are led."""
    halls = range(net[0])
    return all(
        ((x, y) in net[1]) == ((turn[x], turn[y]) not in net[1])
        for x in halls for y in halls if x != y)


def way_rings_by_joining(turn):
    """The rings of ways as lots that are put together as long as the turn leads one into another."""
    lot_of = {way: {way} for way in ways_of(len(turn))}
    for x, y in list(lot_of):
        led = turn[x], turn[y]
        if lot_of[led] is not lot_of[x, y]:
            lot = lot_of[led] | lot_of[x, y]
            for member in lot:
                lot_of[member] = lot
    return set(frozenset(lot) for lot in lot_of.values())


def turned(turn, members):
    """The pairs or ways to which a turn leads some, for pairs the lesser hall not always first."""
    return frozenset((turn[x], turn[y]) for x, y in members)


def named_anew(net, names):
    """A net that is like another one, its halls called by other names."""
    return net[0], tuple(sorted(tuple(sorted((names[x], names[y]))) for x, y in net[1]))


def shuffled(halls, step):
    """Names for the halls, mixed by a step that has no divisor but 1 with 11."""
    return [name for name in [step * at % 11 - 1 for at in range(1, 11)] if name < halls]
