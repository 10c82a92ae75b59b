"""The texts of nets, written and read."""

from restalike.errors import BadLine, BadText
from restalike.nets import MOST_HALLS, all_pairs, check_net


def pair_word(pair):
    """Return the word for a pair, its two halls side by side."""
    x, y = pair
    return f"{x}{y}"


def write_net(net):
    """Return the text of a net."""
    check_net(net)
    halls, pairs = net
    words = [pair_word(pair) for pair in pairs]
    return "\n".join([f"halls {halls}", " ".join(["pairs", *words])])


def words_of(line):
    """Return the list of the words of a line."""
    # Nothing but a space parts words; a tab, say, is a sign of its word.
    return [word for word in line.split(" ") if word != ""]


def numbered_lines(text):
    """Return the list of a text's lines that aren't void, each one as its number and the list of its words."""
    lines = [words_of(line) for line in text.split("\n")]
    return [(number, words) for number, words in enumerate(lines, start=1) if words]


def read_halls(number, words):
    """Return the number of halls that the words of a line tell, the line's number being given for errors."""
    if words[0] != "halls":
        raise BadLine(number, 1)
    if len(words) < 2 or words[1] not in [str(halls) for halls in range(1, MOST_HALLS + 1)]:
        raise BadLine(number, 2)
    if len(words) > 2:
        raise BadLine(number, 3)
    return int(words[1])


def read_pairs(number, words, halls):
    """Return the tuple of the pairs of so many halls that the words of a line tell."""
    if words[0] != "pairs":
        raise BadLine(number, 1)
    told = {pair_word(pair): pair for pair in all_pairs(halls)}
    pairs = []
    for at, word in enumerate(words[1:], start=2):
        if word not in told or (pairs and told[word] <= pairs[-1]):
            raise BadLine(number, at)
        pairs.append(told[word])
    return tuple(pairs)


def read_net(text):
    """Return the net that a text tells."""
    if not isinstance(text, str):
        raise BadText()
    lines = numbered_lines(text)
    behind = len(text.split("\n")) + 1
    if not lines:
        raise BadLine(behind, 1)
    number, words = lines[0]
    halls = read_halls(number, words)
    if len(lines) < 2:
        raise BadLine(behind, 1)
    number, words = lines[1]
    pairs = read_pairs(number, words, halls)
    if len(lines) > 2:
        raise BadLine(lines[2][0], 1)
    return halls, pairs
