import copy
import unittest

from plain import NO_NETS, NO_TEXTS, nets_of, pairs_of
from restalike.errors import BadLine, BadNet, BadText
from restalike.nettexts import read_net, write_net

# Texts that tell no net, and the line and the word that are wrong first.
NO_NET_TEXTS = {
    # A first word that isn't `halls`.
    "hall 3\npairs": (1, 1), "Halls 3\npairs": (1, 1), "HALLS 3\npairs": (1, 1), "halls3\npairs": (1, 1),
    "3\npairs": (1, 1), "3 halls\npairs": (1, 1), "x": (1, 1), "halls: 3\npairs": (1, 1), "hallss 3\npairs": (1, 1),
    "pairs 01\nhalls 3": (1, 1), "pairs": (1, 1), "\n\n  pairs 01\nhalls 3": (3, 1), "\thalls 3\npairs": (1, 1),
    "halls\t3\npairs": (1, 1), "halls\r\npairs": (1, 1), "\n \n x\n": (3, 1), "x y z\nx": (1, 1), "\t": (1, 1),
    "\r": (1, 1), " \n\t\nhalls 3\npairs": (2, 1), "\r\nhalls 3\npairs": (1, 1), "halls,3\npairs": (1, 1),
    "\"halls\" 3\npairs": (1, 1), "halls=3": (1, 1), "halls\x0c3\npairs": (1, 1), "halls\u00a03\npairs": (1, 1),
    "hals x y\npears": (1, 1), "\ufeffhalls 3\npairs": (1, 1),
    # A number of halls that is no figure from 1 to 9.
    "halls 0\npairs": (1, 2), "halls 10\npairs": (1, 2), "halls 12\npairs": (1, 2), "halls 03\npairs": (1, 2),
    "halls -3\npairs": (1, 2), "halls +3\npairs": (1, 2), "halls 3.0\npairs": (1, 2), "halls three\npairs": (1, 2),
    "halls x\npairs": (1, 2), "halls 3,\npairs": (1, 2), "halls 3\t\npairs": (1, 2), "halls 3\r\npairs": (1, 2),
    "halls \u0663\npairs": (1, 2), "halls \u00b3\npairs": (1, 2), "halls \uff13\npairs": (1, 2),
    "halls 3_\npairs": (1, 2), "halls 123456789\npairs": (1, 2), "halls halls\npairs": (1, 2),
    "halls pairs": (1, 2), "halls 0": (1, 2), "halls 0 0\nx": (1, 2), "\n\n halls   11 12\n\npairs": (3, 2),
    "halls 89\npairs": (1, 2), "halls True\npairs": (1, 2), "halls 3\x0b\npairs": (1, 2),
    # A number of halls that lacks.
    "halls": (1, 2), "halls\n3\npairs": (1, 2), "  halls  ": (1, 2), "halls\npairs": (1, 2), "\n\nhalls \n\n": (3, 2),
    "halls\n\n\npairs 01": (1, 2),
    # A third word of the line of halls.
    "halls 3 3\npairs": (1, 3), "halls 3 x": (1, 3), "halls 3 pairs": (1, 3), "halls 3 pairs 01": (1, 3),
    "halls 3 4 5 6\npairs": (1, 3), " \n  halls   3   01\npairs": (2, 3), "halls 3 \t\npairs": (1, 3),
    "halls 3 \r\npairs": (1, 3), "halls 3 x\nx": (1, 3),
    # A first word of the next line that isn't `pairs`.
    "halls 3\npair": (2, 1), "halls 3\nPairs": (2, 1), "halls 3\n01": (2, 1), "halls 3\nhalls 3": (2, 1),
    "halls 3\n\n\n 01 02": (4, 1), "halls 3\npairs01": (2, 1), "halls 3\n\tpairs": (2, 1), "halls 3\npairs\r": (2, 1),
    "halls 3\n\t\npairs": (2, 1), "halls 3\nways 01": (2, 1), "halls 3\n01\npairs": (2, 1),
    "halls 3\npairs: 01": (2, 1),
    "halls 3\npairs\t01": (2, 1), "halls 3\nx 99\nx": (2, 1),
    # A word that is no pair.
    "halls 3\npairs 20": (2, 2), "halls 3\npairs 10": (2, 2), "halls 3\npairs 00": (2, 2), "halls 3\npairs 03": (2, 2),
    "halls 3\npairs 33": (2, 2), "halls 3\npairs 0": (2, 2), "halls 3\npairs 012": (2, 2), "halls 3\npairs 0 1": (2, 2),
    "halls 3\npairs 01,": (2, 2), "halls 3\npairs 0,1": (2, 2), "halls 3\npairs 0-1": (2, 2),
    "halls 3\npairs x": (2, 2),
    "halls 3\npairs (0, 1)": (2, 2), "halls 3\npairs ab": (2, 2), "halls 3\npairs 01 x": (2, 3),
    "halls 3\npairs 01 02 2": (2, 4), "halls 3\npairs 01 02 21": (2, 4), "halls 3\npairs 01 02 13": (2, 4),
    "halls 1\npairs 01": (2, 2), "halls 1\npairs 00": (2, 2), "halls 2\npairs 02": (2, 2), "halls 9\npairs 09": (2, 2),
    "halls 9\npairs 08 89": (2, 3), "halls 9\npairs 78 99": (2, 3), "halls 9\npairs 78 88": (2, 3),
    "halls 3\npairs 01\t02": (2, 2), "halls 3\npairs 01\r": (2, 2), "halls 3\npairs 01 \r": (2, 3),
    "halls 3\npairs \u0660\u0661": (2, 2), "halls 3\npairs 01 \uff10\uff12": (2, 3), "halls 3\npairs 01\x0c02": (2, 2),
    "halls 3\npairs pairs": (2, 2), "halls 3\npairs 01 pairs": (2, 3), "halls 3\npairs 01\u00a002": (2, 2),
    "\nhalls 3\n\n\n  pairs  01   20  ": (5, 3), "halls 3\npairs 0102": (2, 2), "halls 3\npairs 01 halls 4": (2, 3),
    "halls 3\npairs 01 0\nx": (2, 3), "halls 3\npairs -1": (2, 2), "halls 3\npairs 01\u20282": (2, 2),
    # A pair that doesn't come behind the one ahead.
    "halls 3\npairs 01 01": (2, 3), "halls 3\npairs 02 01": (2, 3), "halls 3\npairs 12 01": (2, 3),
    "halls 3\npairs 01 12 02": (2, 4), "halls 3\npairs 01 02 12 12": (2, 5), "halls 3\npairs 01 02 12 01": (2, 5),
    "halls 4\npairs 01 23 13 99": (2, 4), "halls 9\npairs 08 12 09": (2, 4), "halls 4\npairs 03 12 13 03\nx": (2, 5),
    "halls 4\n\npairs   12   12": (3, 3),
    # The first word of a third line.
    "halls 3\npairs 01\nx": (3, 1), "halls 3\npairs\npairs": (3, 1), "halls 3\npairs 01\n02 12": (3, 1),
    "halls 3\npairs 01\nhalls 3": (3, 1), "halls 3\npairs 01\nhalls 3\npairs 01": (3, 1),
    "\nhalls 3\n\npairs 01\n\n  \n  x y\nz": (7, 1), "halls 3\npairs\n\t": (3, 1), "halls 3\npairs 01\n\r": (3, 1),
    "halls 3\npairs\n\n.\n": (4, 1), "halls 3\n\n \npairs\n \n01": (6, 1),
    # A lacking line.
    "": (2, 1), " ": (2, 1), "     ": (2, 1), "\n": (3, 1), "\n\n": (4, 1), " \n  \n\n ": (5, 1), "halls 3": (2, 1),
    "halls 3\n": (3, 1), "halls 3\n\n\n": (5, 1), "\n\nhalls 3": (4, 1), "\n  halls   3  \n ": (4, 1),
    "  halls 9 ": (2, 1),
}


def plain_text(net):
    halls, pairs = net
    return "halls " + str(halls) + "\npairs" + "".join(" " + str(x) + str(y) for x, y in pairs)


def greater_nets():
    """Many nets of five to nine halls."""
    for halls in range(5, 10):
        pairs = pairs_of(halls)
        for step in range(1, 12):
            for start in range(step):
                yield halls, tuple(pairs[start::step])
        for many in range(len(pairs) + 1):
            yield halls, tuple(pairs[:many])
            yield halls, tuple(pairs[many:])


def all_nets():
    return [net for halls in range(1, 5) for net in nets_of(halls)] + list(greater_nets())


class ExamplesTest(unittest.TestCase):

    def test_written_and_read(self):
        self.assertEqual(
            [write_net((4, ((0, 1), (1, 2)))), read_net("halls 3\npairs 02")],
            ["halls 4\npairs 01 12", (3, ((0, 2),))])

    def test_bad_line(self):
        with self.assertRaises(BadLine) as caught:
            read_net("halls 3\npairs 20")
        self.assertEqual(vars(caught.exception), {"line": 2, "word": 2})


class TextsTest(unittest.TestCase):

    def test_written_and_read_back(self):
        for net in all_nets():
            text = write_net(net)
            self.assertEqual(text, plain_text(net))
            self.assertEqual(read_net(text), net)

    def test_no_pairs_and_all_pairs(self):
        self.assertEqual([write_net((1, ())), write_net((9, ()))], ["halls 1\npairs", "halls 9\npairs"])
        self.assertEqual([read_net("halls 1\npairs"), read_net("halls 9\npairs")], [(1, ()), (9, ())])
        self.assertEqual(write_net((3, tuple(pairs_of(3)))), "halls 3\npairs 01 02 12")

    def test_more_spaces(self):
        for net in all_nets()[::3]:
            for at in range(4):
                wide = plain_text(net).replace(" ", " " * (at + 1))
                wide = "\n".join([" " * at + line + " " * (3 - at) for line in wide.split("\n")])
                self.assertEqual(read_net(wide), net, wide)

    def test_void_lines(self):
        for net in all_nets()[::7]:
            first, second = plain_text(net).split("\n")
            for void in ([], [""], [" "], ["", ""], ["   ", "", " "]):
                for more in ([], [""], ["  "], ["", " ", ""]):
                    self.assertEqual(read_net("\n".join([*void, first, *more, second])), net)
                    self.assertEqual(read_net("\n".join([*void, first, second, *more])), net)
                    self.assertEqual(read_net("\n".join([first, *void, second, *more])), net)
                    self.assertEqual(read_net("\n".join([*more, " " + first, *void, second + "  ", *more])), net)

    def test_kinds_of_answers(self):
        net = read_net(" halls 9 \n\n pairs 01  78 ")
        self.assertEqual(net, (9, ((0, 1), (7, 8))))
        self.assertEqual([type(net), type(net[0]), type(net[1])], [tuple, int, tuple])
        self.assertTrue(all(type(pair) is tuple and type(pair[0]) is type(pair[1]) is int for pair in net[1]))
        self.assertIs(type(write_net(net)), str)

    def test_equal_arguments_have_equal_answers(self):
        for net in nets_of(4):
            again = (net[0], tuple([tuple(list(pair)) for pair in net[1]]))
            before = copy.deepcopy(net)
            self.assertEqual(write_net(net), write_net(again))
            self.assertEqual(read_net(plain_text(net)), read_net(plain_text(again)))
            self.assertEqual([net, again], [before, before])


class WrongTextsTest(unittest.TestCase):

    def check(self, text, line, word):
        with self.subTest(text=text), self.assertRaises(BadLine) as caught:
            read_net(text)
        self.assertEqual(vars(caught.exception), {"line": line, "word": word}, text)
        self.assertEqual([type(caught.exception.line), type(caught.exception.word)], [int, int])

    def test_texts(self):
        for text, (line, word) in NO_NET_TEXTS.items():
            self.check(text, line, word)

    def test_void_lines_ahead_and_spaces_count_as_they_stand(self):
        for text, (line, word) in NO_NET_TEXTS.items():
            for many in (1, 3):
                # Void lines move what is wrong down, spaces don't move it.
                self.check("\n" * many + text, line + many, word)
                self.check(" \n" * many + text, line + many, word)
                self.check(" " * many + text.replace("\n", " \n ") + " ", line, word)

    def test_void_lines_behind_count_only_where_a_line_lacks(self):
        for text, (line, word) in NO_NET_TEXTS.items():
            lacks = line == len(text.split("\n")) + 1
            self.check(text + "\n", line + lacks, word)
            self.check(text + "\n  \n", line + 2 * lacks, word)

    def test_every_word_for_a_pair(self):
        for halls in range(1, 10):
            pairs = pairs_of(halls)
            for x in range(10):
                for y in range(10):
                    text = f"halls {halls}\npairs {x}{y}"
                    if (x, y) in pairs:
                        self.assertEqual(read_net(text), (halls, ((x, y),)))
                    else:
                        self.check(text, 2, 2)

    def test_every_two_pairs(self):
        for halls in range(2, 6):
            for x, y in pairs_of(halls):
                for v, w in pairs_of(halls):
                    text = f"halls {halls}\npairs {x}{y} {v}{w}"
                    if (x, y) < (v, w):
                        self.assertEqual(read_net(text), (halls, ((x, y), (v, w))))
                    else:
                        self.check(text, 2, 3)

    def test_a_wrong_word_anywhere(self):
        for net in list(greater_nets())[::5]:
            words = plain_text(net).split("\n")[1].split(" ")
            for at in range(len(words) + 1):
                wrong = " ".join([*words[:at], "x", *words[at:]])
                self.check(f"halls {net[0]}\n{wrong}", 2, at + 1)
                if at > 1:
                    wrong = " ".join([*words[:at], words[at - 1], *words[at:]])
                    self.check(f"halls {net[0]}\n{wrong}", 2, at + 1)


class WrongValuesTest(unittest.TestCase):

    def test_no_texts(self):
        for value in NO_TEXTS:
            with self.subTest(value=value):
                before = copy.deepcopy(value)
                with self.assertRaises(BadText) as caught:
                    read_net(value)
                self.assertEqual(vars(caught.exception), {})
                self.assertEqual(repr(value), repr(before))

    def test_no_nets(self):
        for part, values in NO_NETS.items():
            for value in values:
                with self.subTest(value=value):
                    before = copy.deepcopy(value)
                    with self.assertRaises(BadNet) as caught:
                        write_net(value)
                    self.assertEqual(vars(caught.exception), {"part": part})
                    self.assertEqual(repr(value), repr(before))


if __name__ == "__main__":
    unittest.main()
