"""Point 6: the text of a net, and a net read from it."""

import itertools
import unittest

from arrowtiers.errors import DrawError, NoNet, NoText
from arrowtiers.nets import Net, renumbered
from arrowtiers.nettexts import read_net, show_net

NETS = (
    (["a"], []),
    (["a", "b"], [(0, 1)]),
    (["a", "b"], [(1, 0), (0, 1)]),
    (["box", "arrow"], [(0, 1), (1, 0)]),
    (["abcdefgh", "z", "zzzzzzzz"], [(2, 0), (1, 2)]),
    (list("lkjihgfedcba"), list(itertools.permutations(range(12), 2))[20:44]),
)


def fault_of(text):
    try:
        read_net(text)
    except NoNet as error:
        return error.fault
    return None


class Shown(unittest.TestCase):
    def test_one_box(self):
        self.assertEqual(show_net(Net(["a"], [])), "box a\n")

    def test_boxes_then_arrows(self):
        net = Net(["one", "two", "three"], [(2, 0), (0, 1), (1, 0)])
        text = "box one\nbox two\nbox three\narrow three one\narrow one two\narrow two one\n"
        self.assertEqual(show_net(net), text)

    def test_words_of_the_text_as_names(self):
        net = Net(["box", "arrow"], [(0, 1), (1, 0)])
        self.assertEqual(show_net(net), "box box\nbox arrow\narrow box arrow\narrow arrow box\n")

    def test_renumbered(self):
        net = renumbered(Net(["a", "b"], [(0, 1)]), [1, 0])
        self.assertEqual(show_net(net), "box b\nbox a\narrow a b\n")


class ReadBack(unittest.TestCase):
    def test_the_same_net(self):
        for names, arrows in NETS:
            text = show_net(Net(names, arrows))
            net = read_net(text)
            self.assertIs(type(net), Net)
            self.assertEqual((net.names(), net.arrows()), (names, arrows))
            self.assertEqual(show_net(net), text)

    def test_a_text_written_by_hand(self):
        net = read_net("box cat\nbox arrow\nbox box\narrow box cat\narrow arrow box\n")
        self.assertEqual(net.names(), ["cat", "arrow", "box"])
        self.assertEqual(net.arrows(), [(2, 0), (1, 2)])
        self.assertEqual((net.many(), net.going(2), net.coming(2)), (3, [0], [1]))

    def test_the_same_is_answered_alike(self):
        for names, arrows in NETS:
            net = Net(names, arrows)
            text = show_net(net)
            self.assertEqual(show_net(net), text)
            read_net(text).names().clear()
            self.assertEqual(read_net(text).names(), names)
            self.assertEqual((net.names(), net.arrows()), (names, arrows))


class NoForm(unittest.TestCase):
    def check(self, *texts):
        for text in texts:
            with self.assertRaises(NoText, msg=repr(text)):
                read_net(text)

    def test_line_feeds(self):
        self.check("box a", "box a\nbox b", "box a\nbox b\narrow a b", "\n", "\nbox a\n", "box a\n\n")
        self.check("box a\n\nbox b\n")
        self.check("box a\nbox b\n\narrow a b\n", "box a box b\n", "box\na\n", "box a\nbox b\narrow a\nb\n", "\n\n")

    def test_blanks(self):
        self.check(" ", " \n", "\t\n", "box  a\n", " box a\n", "box a \n", "boxa\n")
        self.check("box\ta\n", "box a\t\n", "\tbox a\n")
        pair = "box a\nbox b\n"
        self.check(pair + "arrow a  b\n", pair + "arrow  a b\n", pair + "arrow a b \n", pair + " arrow a b\n")
        self.check(pair + "arrow a\tb\n", pair + "arrow\ta b\n", pair + "arrow ab\n", pair + "arrowa b\n", pair + " ")

    def test_how_many_words(self):
        pair = "box a\nbox b\n"
        self.check("box\n", "box \n", "box a b\n", "box a b c\n", "a\n", "arrow\n")
        self.check(pair + "arrow\n", pair + "arrow \n", pair + "arrow a\n", pair + "arrow a \n", pair + "arrow a b a\n")
        self.check(pair + "a b\n", pair + "arrow  \n")

    def test_other_heads(self):
        pair = "box a\nbox b\n"
        self.check("Box a\n", "BOX a\n", "boxes a\n", "bo a\n", "a a\n", "row a\n", "box: a\n", "#\n", "# box a\n")
        self.check(pair + "Arrow a b\n", pair + "arrows a b\n", pair + "arro a b\n", pair + "box a b\n")
        self.check(pair + "a a b\n")
        self.check("arrow a\n", "x\n", "something else\n", "~\n")

    def test_words_of_other_signs(self):
        for word in ("A", "aB", "1", "a1", "a-b", "a_b", "a.", "`", "{", "@", "[", "~", "."):
            self.check(f"box {word}\n", f"box a\nbox {word}\n", f"box {word}\nbox b\narrow {word} b\n")
            self.check(f"box a\narrow a {word}\n", f"box a\narrow {word} a\n")

    def test_boxes_behind_arrows(self):
        self.check("box a\nbox b\narrow a b\nbox c\n", "box a\narrow a b\nbox b\n", "arrow a b\nbox a\nbox b\n")

    def test_arrows_of_no_box(self):
        self.check("arrow a b\n", "box a\narrow a b\n", "box b\narrow a b\n", "box a\nbox b\narrow a c\n")
        self.check("box a\nbox b\narrow c b\n", "box a\nbox b\narrow a b\narrow ab b\n", "box ab\narrow a b\n")
        self.check("box a\nbox c\narrow box a\n", "box a\narrow arrow a\n")

    def test_a_last_row_that_is_wrong(self):
        good = show_net(Net(*NETS[-1]))
        self.check(good + "\n", good + " ", good + "x", good + "box m\n", good + "arrow a m\n", good[:-1], good + good)


class FormButNoNet(unittest.TestCase):
    def test_no_row_at_all(self):
        self.assertEqual(fault_of(""), ("names", 0))

    def test_too_many_boxes(self):
        self.assertEqual(fault_of("".join(f"box {name}\n" for name in "abcdefghijklm")), ("names", 13))
        self.assertEqual(fault_of("box a\n" * 40), ("names", 40))

    def test_a_name_too_long(self):
        self.assertEqual(fault_of("box abcdefghi\n"), ("name", 0))
        self.assertEqual(fault_of("box a\nbox abcdefghi\nbox c\narrow a abcdefghi\n"), ("name", 1))

    def test_a_name_twice(self):
        self.assertEqual(fault_of("box a\nbox b\nbox a\n"), ("name", 2))
        self.assertEqual(fault_of("box a\nbox a\narrow a a\n"), ("name", 1))

    def test_too_many_arrows(self):
        pairs = list(itertools.permutations("abcdef", 2))[:25]
        boxes = "".join(f"box {name}\n" for name in "abcdef")
        rows = [f"arrow {start} {end}\n" for start, end in pairs]
        self.assertEqual(len(read_net(boxes + "".join(rows[:24])).arrows()), 24)
        self.assertEqual(fault_of(boxes + "".join(rows)), ("arrows", 25))
        self.assertEqual(fault_of(boxes + "arrow a a\n" * 30), ("arrows", 30))

    def test_an_arrow_with_alike_ends(self):
        self.assertEqual(fault_of("box a\narrow a a\n"), ("arrow", 0))
        self.assertEqual(fault_of("box a\nbox b\narrow a b\narrow b b\n"), ("arrow", 1))

    def test_an_arrow_twice(self):
        self.assertEqual(fault_of("box a\nbox b\narrow a b\narrow b a\narrow a b\n"), ("arrow", 2))

    def test_several_faults(self):
        self.assertEqual(fault_of("box a\n" * 13 + "arrow a a\n" * 25), ("names", 13))
        self.assertEqual(fault_of("box a\nbox a\n" + "arrow a a\n" * 25), ("name", 1))
        self.assertEqual(fault_of("box a\n" + "arrow a a\n" * 25), ("arrows", 25))


class FormAheadOfNet(unittest.TestCase):
    def test_no_text_where_both_are_due(self):
        texts = (
            "box a\n" * 13 + "x\n", "box a\n" * 13 + "box b", "box a\nbox a\n\n", "box abcdefghi\nbox B\n",
            "box a\nbox a\narrow a b\n", "box a\narrow a a\narrow a b\n", "box a\n" + "arrow a a\n" * 25 + "box b\n",
            "arrow a a\n", "box a\narrow a a", "box a\nbox a\narrow a a a\n",
        )
        for text in texts:
            with self.assertRaises(DrawError, msg=repr(text)) as caught:
                read_net(text)
            self.assertIs(type(caught.exception), NoText, repr(text))


if __name__ == "__main__":
    unittest.main()
