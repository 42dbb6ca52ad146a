"""Points 24 and 25: drawings written down as texts, and read back; point 2 for both."""

import copy
import itertools
import re
import unittest

from arrowtiers.drawings import Drawing
from arrowtiers.drawingtexts import read_drawing, show_drawing
from arrowtiers.errors import NoText
from arrowtiers.nets import Net
from arrowtiers.sheets import Sheet, first_order

import samples

NUMBER = "(?:0|[1-9][0-9]*)"
FORMS = (re.compile(rf"row(?: {NUMBER}:(?:[a-z]{{1,8}}|\.))*"), re.compile(rf"down(?: {NUMBER}[-^]{NUMBER})*"))
# Two arrows over a bend each, one of them turned, one straight down, and a box without any.
GOOD = "row 0:a 4:b\ndown 0-0 0-3 4^6\nrow 0:c 3:. 6:.\ndown 3-5 6^5\nrow 5:dd 9:e\n"
GOOD_TOLD = (["a", "b", "c", "dd", "e"], [("a", "c"), ("a", "dd"), ("dd", "b")], [("dd", "b")])


def looked_at(text):
    """What the text tells, or None: by forms and counts, from the bottom to the top."""
    lines = text[:-1].split("\n")
    if not text.endswith("\n") or len(lines) % 2 == 0:
        return None
    if not all(FORMS[at % 2].fullmatch(line) for at, line in enumerate(lines)):
        return None
    rows = [[(int(node.split(":")[0]), node.split(":")[1]) for node in line.split(" ")[1:]] for line in lines[::2]]
    downs = [[(*map(int, re.split("[-^]", piece)), "^" in piece) for piece in line.split(" ")[1:]]
             for line in lines[1::2]]
    if any(sorted(set(down)) != down for down in downs):
        return None
    places = [[place for place, label in row] for row in rows]
    if any(sorted(set(row)) != row for row in places) or all(label == "." for place, label in rows[-1]):
        return None
    reached = {(len(rows) - 1, place): [] for place in places[-1]}
    arrows = []
    for at in range(len(rows) - 1, -1, -1):
        above = {place: [] for place in places[at]}
        for upper, lower, turned in downs[at - 1] if at else []:
            if upper not in places[at - 1] or lower not in above:
                return None
            above[lower].append((upper, turned))
        for place in places[at - 1] if at else []:
            reached[at - 1, place] = []
        for place, label in rows[at]:
            ends = reached[at, place]
            if label == ".":
                if len(ends) != 1 or len(above[place]) != 1 or ends[0][1] != above[place][0][1]:
                    return None
            else:
                arrows += [((end, label) if turned else (label, end), turned) for end, turned in ends]
            for upper, turned in above[place]:
                reached[at - 1, upper].append((ends[0][0] if label == "." else label, turned))
    names = [label for row in rows for place, label in row if label != "."]
    pairs = sorted(pair for pair, turned in arrows)
    if len(set(names)) < len(names) or len(set(pairs)) < len(pairs):
        return None
    return names, pairs, sorted(pair for pair, turned in arrows if turned)


def told_of_net(drawing):
    """What the drawing's text should tell, by its sheet."""
    sheet = drawing.sheet()
    names = sheet.net().names()
    arrows = [(names[a], names[b]) for a, b in sheet.net().arrows()]
    boxes = [names[node] for line in drawing.order() for node in line if node < len(names)]
    return boxes, sorted(arrows), sorted(arrows[arrow] for arrow in sheet.turned())


class Shown(unittest.TestCase):
    def check(self, sheet, order, gap, places):
        text = show_drawing(Drawing(sheet, order, gap, places))
        self.assertIs(type(text), str)
        self.assertEqual(text, samples.text_of(sheet, order, places))
        return text

    def test_one_box(self):
        self.assertEqual(self.check(Sheet(Net(["cat"], []), [], [0]), [[0]], 1, [0]), "row 0:cat\n")
        self.assertEqual(self.check(Sheet(Net(["abcdefgh"], []), [], [0]), [[0]], 1, [12]), "row 12:abcdefgh\n")

    def test_one_row(self):
        sheet = Sheet(Net(["cat", "a", "do"], []), [], [0, 0, 0])
        self.assertEqual(self.check(sheet, [[2, 0, 1]], 2, [4, 9, 0]), "row 0:do 4:cat 9:a\n")

    def test_an_arrow_and_a_turned_one(self):
        for turned, rows, wanted in (
            ([], [0, 1], "row 3:ab\ndown 3-7\nrow 7:c\n"), ([0], [1, 0], "row 7:c\ndown 7^3\nrow 3:ab\n"),
        ):
            sheet = Sheet(Net(["ab", "c"], [(0, 1)]), turned, rows)
            self.assertEqual(self.check(sheet, first_order(sheet), 1, [3, 7]), wanted)

    def test_bends(self):
        sheet = Sheet(Net(["ab", "c", "d"], [(0, 1)]), [], [0, 3, 1])
        text = self.check(sheet, [[0], [3, 2], [4], [1]], 2, [1, 0, 8, 5, 4])
        self.assertEqual(text, "row 1:ab\ndown 1-5\nrow 5:. 8:d\ndown 5-4\nrow 4:.\ndown 4-0\nrow 0:c\n")
        sheet = Sheet(Net(["ab", "c", "d"], [(1, 0)]), [0], [0, 3, 1])
        text = self.check(sheet, [[0], [3, 2], [4], [1]], 2, [1, 0, 8, 5, 4])
        self.assertEqual(text, "row 1:ab\ndown 1^5\nrow 5:. 8:d\ndown 5^4\nrow 4:.\ndown 4^0\nrow 0:c\n")

    def test_rows_without_nodes(self):
        sheet = Sheet(Net(["ab", "c"], []), [], [2, 4])
        text = self.check(sheet, [[], [], [0], [], [1]], 1, [3, 0])
        self.assertEqual(text, "row\ndown\nrow\ndown\nrow 3:ab\ndown\nrow\ndown\nrow 0:c\n")

    def test_plain_ones_ahead_of_turned_ones(self):
        for arrows, turned in (([(0, 1), (1, 0)], [1]), ([(1, 0), (0, 1)], [0])):
            sheet = Sheet(Net(["a", "b"], arrows), turned, [0, 1])
            self.assertEqual(self.check(sheet, [[0], [1]], 1, [2, 10]), "row 2:a\ndown 2-10 2^10\nrow 10:b\n")

    def test_pieces_by_upper_node_then_by_lower_node(self):
        # By the numbers of arrows, by places as texts, or by lower nodes first, the order would be another one.
        sheet = Sheet(samples.net_of(5, [(0, 3), (1, 2), (0, 2), (4, 1), (4, 0), (1, 3)]), [3, 4], [0, 0, 1, 1, 1])
        text = self.check(sheet, [[1, 0], [3, 4, 2]], 1, [11, 9, 30, 8, 11])
        self.assertEqual(text, "row 9:b 11:a\ndown 9-8 9^11 9-30 11-8 11^11 11-30\nrow 8:d 11:e 30:c\n")

    def test_great_places(self):
        most = 10 ** 60 - 1
        sheet = Sheet(Net(["ab", "c", "d"], [(0, 2)]), [], [0, 0, 1])
        text = self.check(sheet, [[0, 1], [2]], 1, [most - 3, most, 10 ** 59])
        nines = "9" * 59
        self.assertEqual(text, f"row {nines}6:ab {nines}9:c\ndown {nines}6-1{'0' * 59}\nrow 1{'0' * 59}:d\n")
        self.assertEqual(read_drawing(text), (["ab", "c", "d"], [("ab", "d")], []))

    def test_many_drawings(self):
        nets = samples.some_nets(251, 30, 1, 12) + samples.great_nets(252, 4)
        for drawing in samples.some_drawings(253, nets):
            self.check(drawing.sheet(), drawing.order(), drawing.gap(), drawing.places())


class ReadBack(unittest.TestCase):
    def check(self, text, wanted):
        told = read_drawing(text)
        self.assertEqual(told, wanted)
        self.assertEqual(told, looked_at(text))
        self.assertIs(type(told), tuple)
        for part in told:
            self.assertIs(type(part), list)
        self.assertTrue(all(type(name) is str for name in told[0]))
        self.assertTrue(all(type(arrow) is tuple for arrow in told[1] + told[2]))

    def test_examples(self):
        self.check(GOOD, GOOD_TOLD)
        self.check("row 0:a\n", (["a"], [], []))
        self.check("row 7:abcdefgh\n", (["abcdefgh"], [], []))
        self.check("row 0:b 1:a\n", (["b", "a"], [], []))
        self.check("row\ndown\nrow 0:a\n", (["a"], [], []))
        self.check("row 0:b\ndown\nrow\ndown\nrow 3:a\n", (["b", "a"], [], []))
        self.check("row 0:b\ndown 0^10\nrow 3:c 10:a\n", (["b", "c", "a"], [("a", "b")], [("a", "b")]))

    def test_two_arrows_between_the_same_boxes(self):
        self.check("row 0:a\ndown 0-0 0^0\nrow 0:b\n", (["a", "b"], [("a", "b"), ("b", "a")], [("b", "a")]))
        self.check("row 0:b\ndown 0-0 0^0\nrow 0:a\n", (["b", "a"], [("a", "b"), ("b", "a")], [("a", "b")]))
        text = "row 0:b\ndown 0-0 0^2\nrow 0:. 2:.\ndown 0-0 2^0\nrow 0:a\n"
        self.check(text, (["b", "a"], [("a", "b"), ("b", "a")], [("a", "b")]))
        text = "row 0:b\ndown 0^0 0-2\nrow 0:. 2:.\ndown 0^0 2-0\nrow 0:a\n"
        self.check(text, (["b", "a"], [("a", "b"), ("b", "a")], [("a", "b")]))

    def test_names_by_rows_and_arrows_sorted(self):
        text = "row 0:z 2:y\ndown 0-0 2-0 2^3\nrow 0:x 3:c\ndown 0^1 3-1\nrow 1:a\n"
        arrows = [("a", "x"), ("c", "a"), ("c", "y"), ("y", "x"), ("z", "x")]
        self.check(text, (["z", "y", "x", "c", "a"], arrows, [("a", "x"), ("c", "y")]))

    def test_places_need_rise_alone(self):
        # There is no gap in the text, so boxes side by side, or one over another, are told as well.
        self.check("row 0:abcdefgh 1:a 2:b\n", (["abcdefgh", "a", "b"], [], []))

    def test_crossed_bends(self):
        text = "row 0:a 5:b\ndown 0-5 5-0\nrow 0:. 5:.\ndown 0-5 5-0\nrow 0:. 5:.\ndown 0-0 5-5\nrow 0:c 5:d\n"
        self.check(text, (["a", "b", "c", "d"], [("a", "c"), ("b", "d")], []))

    def test_more_than_a_net_or_a_sheet_may_have(self):
        names = ["".join(letters) for letters in itertools.product("abcdef", repeat=2)]
        row = "row" + "".join(f" {3 * at}:{name}" for at, name in enumerate(names)) + "\n"
        self.check(row, (names, [], []))
        below = row.replace(":", ":x")
        pairs = [(a, b) for a in range(8) for b in range(8)]
        text = row + "down" + "".join(f" {3 * a}-{3 * b}" for a, b in pairs) + "\n" + below
        wanted = sorted((names[a], "x" + names[b]) for a, b in pairs)
        self.check(text, (names + ["x" + name for name in names], wanted, []))
        for rows in (13, 40, 600):
            text = "row 1:a\ndown 1^1\n" + "row 1:.\ndown 1^1\n" * rows + "row 1:b\n"
            self.check(text, (["a", "b"], [("b", "a")], [("b", "a")]))
        self.check("row\ndown\n" * 30 + "row 1:a\n", (["a"], [], []))

    def test_places_of_many_figures(self):
        for figures in (60, 61, 5000):
            one, other = "1" * figures, "2" + "0" * (figures - 1)
            text = f"row 9:a {one}:b {other}:c\ndown {one}-0\nrow 0:d\n"
            self.assertEqual(read_drawing(text), (["a", "b", "c", "d"], [("b", "d")], []))
            self.assertRaises(NoText, read_drawing, f"row {other}:a {one}:b\n")
            self.assertRaises(NoText, read_drawing, f"row {one}:a 9:b\n")
            self.assertRaises(NoText, read_drawing, f"row {one}:a {one}:b\n")
            self.assertRaises(NoText, read_drawing, f"row 0{one}:a\n")

    def test_drawings(self):
        nets = samples.some_nets(254, 40, 1, 12) + samples.great_nets(255, 5)
        for drawing in samples.some_drawings(256, nets):
            self.check(show_drawing(drawing), told_of_net(drawing))


class Refused(unittest.TestCase):
    def check(self, *texts):
        for text in texts:
            with self.subTest(text=text):
                self.assertIsNone(looked_at(text))
                self.assertRaises(NoText, read_drawing, text)

    def check_changed(self, *changes):
        """Each one a tuple of what stands in the good text, just once, and of what stands there instead."""
        for old, new in changes:
            self.assertEqual(GOOD.count(old), 1, old)
            self.check(GOOD.replace(old, new))

    def test_rows_not_of_the_form(self):
        self.check("\n", " \n", "a\n", "0:a\n", "rows 0:a\n", "Row 0:a\n", "row0:a\n", "down\n", "row 0:a\ndown\n",
                   "row 0:a\nrow 0:b\n", "row 0:a\ndown\ndown\nrow 0:b\n", "down\nrow 0:a\n", "row 0:a\n\n",
                   "\nrow 0:a\n", "row 0:a\ndown\n\nrow 0:b\n", "box a\n", "row 0\n", "row a\n", "row :a\n", "row 0:\n",
                   "row 0:a:b\n", "row 0::a\n", "row 0;a\n", "row a:0\n", "row 0:a row 3:b\n", "row 0:a,3:b\n",
                   "row 0:a\ndown 0:0\nrow 0:b\n", "row 0-a\n", "row 0:a\nup 0-0\nrow 0:b\n", "row 0:0\n", "row .:0\n",
                   "row 0:a\ndown 0-0\nrow 0:b\ndown\n", "row 0:a\ndown 0-0\nrow 0:b\ndown", "row 0:a\nrow\n",
                   "row 0:a\ndown row 0:b\n", "row 0:a\ndown 0-0 row 0:b\n", "row:0:a\n",
                   "row 0:a\ndown:0-0\nrow 0:b\n")

    def test_pieces_not_of_the_form(self):
        for piece in ("0", "0-", "-0", "^0", "0^", "-", "^", "0--0", "0^^0", "0-^0", "0^-0", "0-0-0", "0^0^0", "0-0^0",
                      "0=0", "00", "a-0", "0-a", "0-.", "0 - 0", "0- 0", "0:a", "0>0", "0v0", "0~0", ".-0"):
            self.check(f"row 0:a\ndown {piece}\nrow 0:b\n")

    def test_no_names(self):
        for name in ("", "abcdefghi", "A", "aB", "a1", "1", "..", ".a", "a.", "a_b", "a-b", "-", "*", "a:", "~"):
            self.check(f"row 0:{name}\n", f"row 0:x 20:{name}\n", f"row 0:{name}\ndown\nrow 0:x\n")

    def test_numbers(self):
        for number in ("00", "01", "007", "+1", "-1", "1_0", "_1", "1_", "", " 1", "1.", "1.0", "1e1", "0x1", "a", "+0",
                       "-0", "1+", "1,0", "--1"):
            self.check(f"row {number}:a\n", f"row 0:x\ndown {number}-0\nrow 0:y\n",
                       f"row 0:x\ndown 0-{number}\nrow 0:y\n", f"row 0:x\ndown 0^{number}\nrow 0:y\n")
        self.check("row 01:a\ndown 01-0\nrow 0:b\n", "row +1:a\ndown +1-0\nrow 0:b\n", "row 1:a\ndown 01-0\nrow 0:b\n",
                   "row 10:a\ndown 1_0-0\nrow 0:b\n", "row 0:a\ndown 00-0\nrow 0:b\n")

    def test_blanks_and_tabs(self):
        self.check("row  0:a\n", "row 0:a \n", " row 0:a\n", "row 0:a  3:b\n", "row \ndown\nrow 0:a\n", "row 0: a\n",
                   "row 0 :a\n", "row\t0:a\n", "row 0:a\t\n", "row 0:a\t3:b\n", "\trow 0:a\n",
                   "row 0:a\ndown \nrow 0:b\n",
                   "row 0:a\ndown  0-0\nrow 0:b\n", "row 0:a\ndown 0-0 \nrow 0:b\n", "row 0:a\ndown\t0-0\nrow 0:b\n",
                   "row 0:a\n down\nrow 0:b\n", "row 0:a\n ", "row 0:a\n\t\n", "row 0:a\ndown\t\nrow 0:b\n")

    def test_no_line_feed_at_the_end(self):
        self.check("", "row 0:a", GOOD[:-1], GOOD + "row 0:f", GOOD + "x", "row", "row 0:a\ndown\nrow 0:b")

    def test_last_row_without_a_box(self):
        self.check("row\n", "row 0:a\ndown\nrow\n", "row 0:.\n", "row 0:a\ndown 0-0\nrow 0:.\n", "row\ndown\nrow\n",
                   GOOD + "down\nrow\n")

    def test_pieces_not_in_their_order(self):
        self.check_changed(("0-0 0-3 4^6", "0-3 0-0 4^6"), ("0-0 0-3 4^6", "4^6 0-0 0-3"), ("3-5 6^5", "6^5 3-5"),
                           ("0-0 0-3 4^6", "0-0 4^6 0-3"))
        self.check("row 0:a\ndown 0^0 0-0\nrow 0:b\n", "row 2:a 10:b\ndown 10-0 2-0\nrow 0:c\n",
                   "row 0:a\ndown 0-10 0-2\nrow 2:b 10:c\n", "row 0:a\ndown 0^10 0-2\nrow 2:b 10:c\n",
                   "row 0:a 2:d\ndown 0-2 2-0 0-0\nrow 0:b 2:c\n", "row 0:a 2:d\ndown 2-0 0-2\nrow 0:b 2:c\n")
        self.assertTrue(read_drawing("row 2:a 10:b\ndown 2-0 10-0\nrow 0:c\n"))
        self.assertTrue(read_drawing("row 0:a\ndown 0^2 0-10\nrow 2:b 10:c\n"))

    def test_pieces_twice_alike(self):
        self.check("row 0:a\ndown 0-0 0-0\nrow 0:b\n", "row 0:a\ndown 0^0 0^0\nrow 0:b\n")
        self.check_changed(("0-0 0-3", "0-0 0-0 0-3"), ("3-5 6^5", "3-5 3-5 6^5"), ("3-5 6^5", "3-5 6^5 6^5"))

    def test_places_not_rising(self):
        self.check("row 1:a 0:b\n", "row 0:a 0:b\n", "row 10:a 9:b\n", "row 0:a 5:b 5:c\n", "row 0:a 5:b 4:c\n",
                   "row 0:b 0:a\n", "row 100:a 99:b\n", "row 0:c 0:.\ndown\nrow 0:a\n")
        self.check_changed(("0:a 4:b", "4:b 0:a"), ("3:. 6:.", "6:. 3:."), ("5:dd 9:e", "9:e 5:dd"),
                           ("3:. 6:.", "3:. 3:. 6:."))
        self.assertTrue(read_drawing("row 9:a 10:b 99:c 100:d\n"))

    def test_ends_at_no_node(self):
        self.check_changed(("0-0", "1-0"), ("0-0", "0-1"), ("3-5", "3-6"), ("3-5", "3-4"), ("3-5", "5-5"),
                           ("6^5", "6^6"))
        self.check("row 0:a\ndown 5-0\nrow 0:b 5:c\n", "row 0:a 5:c\ndown 0-5\nrow 0:b\n", "row\ndown 0-0\nrow 0:b\n",
                   "row 0:a\ndown 0-0\nrow\ndown\nrow 0:b\n", "row 0:a\ndown 0-0\nrow\ndown 0-0\nrow 0:b\n",
                   "row 0:a\ndown 0^1\nrow 0:b\n", "row 10:a\ndown 1-0\nrow 0:b\n", "row 1:a\ndown 10-0\nrow 0:b\n")

    def test_bends_with_none_or_two_pieces(self):
        # In turn: none above, two above, none below, two below, none at all.
        self.check_changed((" 0-3", ""), ("0-3 4^6", "0-3 4-3 4^6"), ("down 3-5 6^5", "down 6^5"),
                           ("3-5 6^5", "3-5 3-9 6^5"), ("3:. 6:.", "3:. 4:. 6:."))
        self.check("row 0:.\ndown 0-0\nrow 0:a\n", "row 0:a 3:.\ndown 3-0\nrow 0:b\n",
                   "row 0:a\ndown 0-0\nrow 0:. 2:b\n",
                   "row 0:a\ndown 0-0\nrow 0:.\ndown\nrow 0:b\n", "row 0:a\ndown\nrow 0:.\ndown 0-0\nrow 0:b\n",
                   "row 0:a\ndown\nrow 0:.\ndown\nrow 0:b\n", "row 0:a 2:c\ndown 0-0 2-0\nrow 0:.\ndown 0-0\nrow 0:b\n",
                   "row 0:a\ndown 0-0\nrow 0:.\ndown 0-0 0-2\nrow 0:b 2:c\n",
                   "row 0:a 2:c\ndown 0-0 2-0\nrow 0:.\ndown 0-0 0-2\nrow 0:b 2:d\n",
                   "row 0:a\ndown 0-0 0^0\nrow 0:.\ndown 0-0 0^0\nrow 0:b\n")

    def test_bends_with_one_turned_and_one_not(self):
        self.check_changed(("3-5", "3^5"), ("6^5", "6-5"), ("0-3", "0^3"), ("4^6", "4-6"))
        self.check("row 0:a\ndown 0-0\nrow 0:.\ndown 0^0\nrow 0:b\n", "row 0:a\ndown 0^0\nrow 0:.\ndown 0-0\nrow 0:b\n",
                   "row 0:a\ndown 0-0\nrow 0:.\ndown 0-0\nrow 0:.\ndown 0^0\nrow 0:b\n")

    def test_a_name_twice(self):
        self.check("row 0:a 2:a\n", "row 0:a\ndown\nrow 0:a\n", "row 0:a\ndown 0-0\nrow 0:a\n",
                   "row 0:a 2:b 4:a\n", "row 0:a 2:b\ndown\nrow 0:c\ndown\nrow 0:b\n")
        self.check_changed(("9:e", "9:a"), ("0:c", "0:dd"))

    def test_two_arrows_alike(self):
        for sign in "-^":
            self.check(f"row 0:a\ndown 0{sign}0 0{sign}2\nrow 0:. 2:.\ndown 0{sign}0 2{sign}0\nrow 0:b\n",
                       f"row 0:a\ndown 0{sign}0 0{sign}2\nrow 0:. 2:.\ndown 0{sign}2 2{sign}0\nrow 0:. 2:.\n"
                       f"down 0{sign}1 2{sign}1\nrow 1:b\n")

    def test_changed_at_random(self):
        """Texts with a few signs, words or rows changed: told or refused just as by the look of the test's own."""
        dice = samples.chance(257)
        texts = [show_drawing(drawing) for drawing in samples.some_drawings(258, samples.some_nets(259, 25, 1, 5, 5))]
        told = 0
        for text in texts + [GOOD]:
            for count in range(120):
                changed = change_signs(dice, text) if dice.random() < 0.5 else change_words(dice, text)
                wanted = looked_at(changed)
                if wanted is None:
                    with self.subTest(text=changed):
                        self.assertRaises(NoText, read_drawing, changed)
                else:
                    told += 1
                    self.assertEqual(read_drawing(changed), wanted, changed)
        self.assertGreater(told, 300)


def change_signs(dice, text):
    for count in range(dice.choice((1, 1, 2))):
        at = dice.randrange(len(text) + 1)
        sign = dice.choice("0123456789:.-^ abzA\n\t_+rowdn")
        text = text[:at] + dice.choice((sign, "", sign + text[at:at + 1])) + text[at + 1:]
    return text


def change_words(dice, text):
    lines = [line.split(" ") for line in text.split("\n")]
    for count in range(dice.choice((1, 1, 2))):
        line = dice.choice(lines)
        other = dice.choice(lines)
        at = dice.randrange(len(line))
        deed = dice.randrange(6)
        if deed == 0:
            del line[at]
        elif deed == 1:
            line.insert(at, dice.choice(other or ["row"]))
        elif deed == 2:
            dice.shuffle(line)
        elif deed == 3:
            line[at] = line[at].replace("-", "/").replace("^", "-").replace("/", "^")
        elif deed == 4:
            line[at] = line[at].split(":")[0] + ":" + dice.choice((".", "a", "b", "abc"))
        else:
            lines.insert(dice.randrange(len(lines)), list(other))
        lines = [line for line in lines if line]
    return "\n".join(" ".join(line) for line in lines)


class LeftAlone(unittest.TestCase):
    """Point 2."""

    def test_shown(self):
        for drawing in samples.some_drawings(260, samples.some_nets(261, 10, 1, 9)):
            before = copy.deepcopy(samples.told_by_drawing(drawing))
            text = show_drawing(drawing)
            self.assertEqual(show_drawing(drawing), text)
            self.assertEqual(samples.told_by_drawing(drawing), before)
            twin = Drawing(drawing.sheet(), samples.as_tuples(drawing.order()), drawing.gap(), tuple(drawing.places()))
            self.assertEqual(show_drawing(twin), text)

    def test_read(self):
        samples.check_kept_apart(self, read_drawing, GOOD)
        self.assertEqual(read_drawing(GOOD), GOOD_TOLD)
        samples.check_kept_apart(self, read_drawing, "row 0:a\n")


if __name__ == "__main__":
    unittest.main()
