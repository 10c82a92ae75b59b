"""The search for a turn that leads the ways of a net to what the net leaves out."""


def can_go_on(table, turn, hall):
    """Tell whether a turn of the first halls, which leads all ways between them, can lead the next one to a hall."""
    if hall in turn:
        return False
    new = len(turn)
    for old, led in enumerate(turn):
        if table[old][new] == table[led][hall] or table[new][old] == table[hall][led]:
            return False
    return True


def finish_turn(table, turn):
    """Return a whole turn that begins as a turn of the first halls does and leads all ways, None without any."""
    if len(turn) == len(table):
        return turn
    for hall in range(len(table)):
        if can_go_on(table, turn, hall):
            whole = finish_turn(table, (*turn, hall))
            if whole is not None:
                return whole
    return None


def find_turn(halls, ways):
    """Return a turn that leads just what are ways of so many halls to what are none, None without any."""
    # A way is looked up very often, and in a table faster than in the tuple of all.
    table = [[(x, y) in ways for y in range(halls)] for x in range(halls)]
    return finish_turn(table, ())
