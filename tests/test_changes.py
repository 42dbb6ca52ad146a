"""Point 26: boxes put into a drawing and taken out of it; point 2 for both."""

import copy
import unittest

from arrowtiers.changes import put_in, taken_out
from arrowtiers.drawings import Drawing
from arrowtiers.drawingtexts import show_drawing
from arrowtiers.errors import NoName, NoNet, NoNumber, NoRow
from arrowtiers.nets import Net
from arrowtiers.sheets import Sheet

import samples

BIG = samples.BIG
NO_NAMES = ("", "abcdefghi", "A", "aB", "a b", " a", "a\n", "1", "a1", ".", "-", "a_b", "\t", "box a")


def key_of(sheet, node):
    """A node by what stays the same whatever the numbers are: its name, or its arrow's ends and its row."""
    names = sheet.net().names()
    if sheet.arrow_of(node) is None:
        return names[node]
    a, b = sheet.net().arrows()[sheet.arrow_of(node)]
    return names[a], names[b], sheet.row_of(node)


def lines_of(drawing):
    """For each row its nodes from left to right: key, place and width."""
    sheet, places = drawing.sheet(), drawing.places()
    return [[(key_of(sheet, node), places[node], samples.width_of(sheet, node)) for node in line]
            for line in drawing.order()]


def arrows_of(drawing):
    """The arrows by names, in the order of their numbers, and which of them are turned."""
    sheet = drawing.sheet()
    names = sheet.net().names()
    return [(names[a], names[b], arrow in sheet.turned()) for arrow, (a, b) in enumerate(sheet.net().arrows())]


def rows_of(drawing):
    """The boxes in the order of their numbers, with their rows."""
    return list(zip(drawing.sheet().net().names(), drawing.sheet().rows()))


def goes_with(key, name):
    """Whether the node is that box, or a bend of one of its arrows."""
    return name == key if type(key) is str else name in key


def put_into_line(line, gap, name, at):
    """The row with the new box in it, and the names of the boxes that must move."""
    if at:
        key, ahead, width = line[at - 1]
        least = ahead + width + gap
    else:
        least = 0
    new = line[:at] + [(name, least, len(name))]
    moved = []
    for key, place, width in line[at:]:
        least = new[-1][1] + new[-1][2] + gap
        if place < least and type(key) is str:
            moved.append(key)
        new.append((key, max(place, least), width))
    return new, moved


def check_anew(case, drawing):
    """The drawing tells what one made of the very same tells, and its text is right."""
    sheet = drawing.sheet()
    twin = Sheet(Net(sheet.net().names(), sheet.net().arrows()), sheet.turned(), sheet.rows())
    again = Drawing(twin, drawing.order(), drawing.gap(), drawing.places())
    case.assertEqual(samples.told_by_drawing(drawing), samples.told_by_drawing(again))
    case.assertTrue(samples.keeps(sheet, drawing.order(), drawing.gap(), drawing.places()))
    case.assertEqual(show_drawing(drawing), samples.text_of(sheet, drawing.order(), drawing.places()))


def drawing_of(names, arrows, turned, rows, order, gap, places):
    return Drawing(Sheet(Net(names, arrows), turned, rows), order, gap, places)


class PutIn(unittest.TestCase):
    def check(self, drawing, name, row, at):
        before = copy.deepcopy(samples.told_by_drawing(drawing))
        told = put_in(drawing, name, row, at)
        self.assertEqual(samples.told_by_drawing(drawing), before)
        self.assertIs(type(told), tuple)
        new, moved = told
        self.assertIsInstance(new, Drawing)
        self.assertIs(type(moved), list)
        lines = lines_of(drawing)
        lines[row], wanted = put_into_line(lines[row], drawing.gap(), name, at)
        self.assertEqual(lines_of(new), lines)
        self.assertEqual(moved, wanted)
        self.assertEqual(arrows_of(new), arrows_of(drawing))
        self.assertEqual(new.sheet().net().names(), drawing.sheet().net().names() + [name])
        self.assertEqual(new.sheet().rows(), drawing.sheet().rows() + [row])
        self.assertEqual(new.gap(), drawing.gap())
        self.assertEqual(new.sheet().many_nodes(), drawing.sheet().many_nodes() + 1)
        check_anew(self, new)
        return new, moved

    def check_everywhere(self, drawing, name):
        for row, line in enumerate(drawing.order()):
            for at in range(len(line) + 1):
                self.check(drawing, name, row, at)

    def test_beside_one_box(self):
        for gap in (1, 3, 100):
            for place in (0, 1, 3 + gap, 4 + gap, 5 + gap):
                drawing = drawing_of(["ab"], [], [], [0], [[0]], gap, [place])
                new, moved = self.check(drawing, "cdef", 0, 0)
                self.assertEqual((new.places(), new.order()), ([max(place, 4 + gap), 0], [[1, 0]]))
                self.assertEqual(moved, ["ab"] if place < 4 + gap else [])
                new, moved = self.check(drawing, "cdef", 0, 1)
                self.assertEqual((new.places(), new.order(), moved), ([place, place + 2 + gap], [[0, 1]], []))

    def test_all_behind_it_move(self):
        drawing = drawing_of(["a", "b", "c", "d"], [], [], [0] * 4, [[3, 2, 1, 0]], 2, [9, 6, 3, 0])
        new, moved = self.check(drawing, "xx", 0, 1)
        self.assertEqual((new.places(), moved), ([13, 10, 7, 0, 3], ["c", "b", "a"]))
        new, moved = self.check(drawing, "xx", 0, 0)
        self.assertEqual((new.places(), moved), ([13, 10, 7, 4, 0], ["d", "c", "b", "a"]))

    def test_some_behind_it_have_room(self):
        drawing = drawing_of(["a", "b", "c", "d"], [], [], [0] * 4, [[0, 1, 2, 3]], 1, [0, 2, 9, 11])
        new, moved = self.check(drawing, "xyz", 0, 1)
        self.assertEqual((new.places(), moved), ([0, 6, 9, 11, 2], ["b"]))
        new, moved = self.check(drawing, "xyz", 0, 2)
        self.assertEqual((new.places(), moved), ([0, 2, 9, 11, 4], []))
        new, moved = self.check(drawing, "xyz", 0, 3)
        self.assertEqual((new.places(), moved), ([0, 2, 9, 15, 11], ["d"]))
        new, moved = self.check(drawing, "xyz", 0, 4)
        self.assertEqual((new.places(), moved), ([0, 2, 9, 11, 13], []))

    def test_at_0_even_where_the_others_stand_far_to_the_right(self):
        drawing = drawing_of(["a", "b"], [], [], [0] * 2, [[0, 1]], 1, [50, 60])
        new, moved = self.check(drawing, "x", 0, 0)
        self.assertEqual((new.places(), moved), ([50, 60, 0], []))
        new, moved = self.check(drawing, "x", 0, 1)
        self.assertEqual((new.places(), moved), ([50, 60, 52], []))

    def test_bends_move_and_are_not_told(self):
        # A straight arrow is straight no more: bends 3 and 4 in rows 1 and 2.
        names = ["a", "b", "c"]
        drawing = drawing_of(names, [(0, 1)], [], [0, 3, 1], [[0], [3, 2], [4], [1]], 1, [0, 0, 2, 0, 0])
        new, moved = self.check(drawing, "x", 1, 0)
        self.assertEqual((new.order(), moved), ([[0], [3, 4, 2], [5], [1]], ["c"]))
        self.assertEqual(new.places(), [0, 0, 4, 0, 2, 0])
        new, moved = self.check(drawing, "xx", 2, 0)
        self.assertEqual((new.order(), new.places(), moved), ([[0], [4, 2], [3, 5], [1]], [0, 0, 2, 0, 0, 3], []))

    def test_a_row_without_nodes(self):
        drawing = drawing_of(["a", "b"], [], [], [2, 4], [[], [], [0], [], [1]], 2, [7, 9])
        for row in (0, 1, 3):
            new, moved = self.check(drawing, "xyz", row, 0)
            self.assertEqual((new.order()[row], new.places(), moved), ([2], [7, 9, 0], []))

    def test_names(self):
        drawing = drawing_of(["a", "b"], [], [], [0, 0], [[0, 1]], 1, [0, 2])
        for name in ("c", "aa", "ab", "abcdefgh", "row", "box"):
            self.check_everywhere(drawing, name)

    def test_up_to_twelve_boxes(self):
        drawing = drawing_of(["a"], [], [], [0], [[0]], 1, [0])
        for name in "bcdefghijkl":
            drawing, moved = self.check(drawing, name, 0, 0)
        self.assertEqual(drawing.order(), [[11, 10, 9, 8, 7, 6, 5, 4, 3, 2, 1, 0]])
        with self.assertRaises(NoNet) as caught:
            put_in(drawing, "m", 0, 0)
        self.assertEqual(caught.exception.fault, ("names", 13))

    def test_everywhere(self):
        for drawing in samples.some_drawings(262, samples.some_nets(263, 20, 1, 11, 14)):
            self.check_everywhere(drawing, "new" if "new" not in drawing.sheet().net().names() else "newer")

    def test_great_drawings(self):
        dice = samples.chance(264)
        nets = [samples.some_net(dice, 11, 24) for count in range(4)]
        for drawing in samples.some_drawings(265, nets):
            row = dice.randrange(drawing.sheet().many_rows())
            self.check(drawing, "newest", row, dice.randint(0, len(drawing.order()[row])))

    def test_great_places(self):
        most = 10 ** 59
        drawing = drawing_of(["a", "b"], [], [], [0, 0], [[0, 1]], 1, [most, most + 2])
        new, moved = self.check(drawing, "x", 0, 1)
        self.assertEqual((new.places(), moved), ([most, most + 4, most + 2], ["b"]))


class TakenOut(unittest.TestCase):
    def check(self, drawing, name):
        before = copy.deepcopy(samples.told_by_drawing(drawing))
        new = taken_out(drawing, name)
        self.assertEqual(samples.told_by_drawing(drawing), before)
        self.assertIsInstance(new, Drawing)
        rows = [pair for pair in rows_of(drawing) if pair[0] != name]
        self.assertEqual(rows_of(new), rows)
        kept = [[node for node in line if not goes_with(node[0], name)] for line in lines_of(drawing)]
        last = max(row for other, row in rows)
        self.assertEqual(lines_of(new), kept[:last + 1])
        self.assertEqual([line for line in kept[last + 1:] if line], [])
        self.assertEqual(arrows_of(new), [arrow for arrow in arrows_of(drawing) if name not in arrow[:2]])
        self.assertEqual(new.gap(), drawing.gap())
        check_anew(self, new)
        return new

    def test_one_of_two(self):
        drawing = drawing_of(["a", "b"], [(0, 1)], [], [0, 1], [[0], [1]], 1, [3, 5])
        new = self.check(drawing, "a")
        self.assertEqual((new.order(), new.places(), new.sheet().rows()), ([[], [0]], [5], [1]))
        new = self.check(drawing, "b")
        self.assertEqual((new.order(), new.places(), new.sheet().rows()), ([[0]], [3], [0]))

    def test_nothing_closes_up(self):
        drawing = drawing_of(["a", "b", "c"], [], [], [0] * 3, [[0, 1, 2]], 1, [4, 6, 8])
        self.assertEqual(self.check(drawing, "a").places(), [6, 8])
        self.assertEqual(self.check(drawing, "b").places(), [4, 8])
        self.assertEqual(self.check(drawing, "c").places(), [4, 6])

    def test_its_arrows_and_their_bends_go(self):
        # Bends: 4 and 5 of arrow 0, 6 of arrow 1, 7 of arrow 3.
        arrows = [(0, 3), (3, 1), (1, 2), (2, 0)]
        rows = [0, 1, 2, 3]
        drawing = drawing_of(["a", "b", "c", "d"], arrows, [1, 3], rows, [[0], [7, 1, 4], [6, 2, 5], [3]], 1,
                             [0, 2, 5, 0, 9, 9, 3, 0])
        new = self.check(drawing, "b")
        self.assertEqual(new.sheet().net().arrows(), [(0, 2), (1, 0)])
        self.assertEqual((new.sheet().turned(), new.sheet().rows()), ([1], [0, 2, 3]))
        self.assertEqual((new.order(), new.places()), ([[0], [5, 3], [1, 4], [2]], [0, 5, 0, 9, 9, 0]))
        new = self.check(drawing, "d")
        self.assertEqual((new.sheet().net().arrows(), new.sheet().turned()), ([(1, 2), (2, 0)], [1]))
        self.assertEqual((new.order(), new.places()), ([[0], [3, 1], [2]], [0, 2, 5, 0]))

    def test_rows_at_the_end_left_without_a_box(self):
        # The bends in rows 1 to 4 go with their arrow, so rows 2 to 5 are left without a node.
        drawing = drawing_of(["a", "b", "c"], [(0, 2)], [], [0, 1, 5], [[0], [1, 3], [4], [5], [6], [2]], 1,
                             [0, 0, 0, 2, 2, 2, 2])
        new = self.check(drawing, "c")
        self.assertEqual((new.sheet().many_rows(), new.order(), new.places()), (2, [[0], [1]], [0, 0]))
        new = self.check(drawing, "a")
        self.assertEqual((new.sheet().many_rows(), new.order()), (6, [[], [0], [], [], [], [1]]))

    def test_one_after_another(self):
        for drawing in samples.some_drawings(266, samples.some_nets(267, 6, 2, 12)):
            names = drawing.sheet().net().names()
            for name in names[1:]:
                drawing = self.check(drawing, name)
            with self.assertRaises(NoNet) as caught:
                taken_out(drawing, names[0])
            self.assertEqual(caught.exception.fault, ("names", 0))

    def test_every_box(self):
        nets = samples.some_nets(268, 25, 2, 12, 18) + samples.great_nets(269, 3)
        for drawing in samples.some_drawings(270, nets):
            for name in drawing.sheet().net().names():
                self.check(drawing, name)

    def test_what_was_put_in(self):
        """Where no other node moved, the elder drawing is back."""
        for drawing in samples.some_drawings(271, samples.some_nets(272, 8, 1, 9, 9)):
            for row, line in enumerate(drawing.order()):
                new, moved = put_in(drawing, "back", row, len(line))
                self.assertEqual(moved, [])
                back = self.check(new, "back")
                self.assertEqual(samples.told_by_drawing(back), samples.told_by_drawing(drawing))


class Refused(unittest.TestCase):
    def setUp(self):
        names = [letter * 2 for letter in "abcdefghijkl"]
        self.small = drawing_of(names[:3], [(0, 2)], [], [0, 0, 2], [[1, 0], [3], [2]], 1, [3, 0, 0, 0])
        self.full = drawing_of(names, [], [], [0] * 11 + [1], [list(range(11)), [11]], 1,
                               [3 * k for k in range(11)] + [0])
        self.lone = drawing_of(["aa"], [], [], [0], [[0]], 1, [0])

    def test_put_in_no_name(self):
        for drawing in (self.small, self.full, self.lone):
            for name in NO_NAMES + ("aa",):
                for row, at in ((0, 0), (0, 1), (-1, 0), (9, 0), (0, -1), (0, 99), (99, 99)):
                    self.assertRaises(NoName, put_in, drawing, name, row, at)

    def test_put_in_no_row(self):
        for drawing in (self.small, self.full, self.lone):
            for row in (-1, -2, drawing.sheet().many_rows(), 12, BIG, -BIG):
                for at in (0, 1, -1, 99, BIG):
                    self.assertRaises(NoRow, put_in, drawing, "new", row, at)

    def test_put_in_no_number(self):
        for drawing in (self.small, self.full, self.lone):
            for row, line in enumerate(drawing.order()):
                for at in (-1, -2, len(line) + 1, len(line) + 2, BIG, -BIG):
                    self.assertRaises(NoNumber, put_in, drawing, "new", row, at)

    def test_put_in_no_number_of_a_row_without_nodes(self):
        drawing = drawing_of(["a"], [], [], [1], [[], [0]], 1, [0])
        self.assertRaises(NoNumber, put_in, drawing, "b", 0, 1)
        self.assertRaises(NoNumber, put_in, drawing, "b", 0, -1)
        self.assertEqual(put_in(drawing, "b", 0, 0)[0].order(), [[1], [0]])

    def test_put_in_a_thirteenth(self):
        for row, at in ((0, 0), (0, 11), (1, 0), (1, 1)):
            with self.assertRaises(NoNet) as caught:
                put_in(self.full, "new", row, at)
            self.assertEqual(caught.exception.fault, ("names", 13))

    def test_take_out_no_name(self):
        for drawing in (self.small, self.full, self.lone):
            for name in NO_NAMES + ("a", "aaa", "zz", "new"):
                self.assertRaises(NoName, taken_out, drawing, name)

    def test_take_out_the_only_box(self):
        with self.assertRaises(NoNet) as caught:
            taken_out(self.lone, "aa")
        self.assertEqual(caught.exception.fault, ("names", 0))

    def test_refused_ones_leave_the_drawing(self):
        before = [copy.deepcopy(samples.told_by_drawing(drawing)) for drawing in (self.small, self.full, self.lone)]
        self.test_put_in_no_name()
        self.test_put_in_no_row()
        self.test_put_in_no_number()
        self.test_put_in_a_thirteenth()
        self.test_take_out_no_name()
        self.test_take_out_the_only_box()
        after = [samples.told_by_drawing(drawing) for drawing in (self.small, self.full, self.lone)]
        self.assertEqual(after, before)


class LeftAlone(unittest.TestCase):
    """Point 2; that the elder drawing stays is looked at by each check above."""

    def test_kept_apart(self):
        for drawing in samples.some_drawings(273, samples.some_nets(274, 8, 3, 9, 12)):
            name = drawing.sheet().net().names()[1]

            def put(row):
                new, moved = put_in(drawing, "new", row, 0)
                return (*samples.told_by_drawing(new), moved)

            def take(name):
                return samples.told_by_drawing(taken_out(drawing, name))
            samples.check_kept_apart(self, put, drawing.sheet().many_rows() - 1)
            samples.check_kept_apart(self, take, name)

    def test_told_lists_altered(self):
        for drawing in samples.some_drawings(275, samples.some_nets(276, 8, 3, 9, 12)):
            elder = copy.deepcopy(samples.told_by_drawing(drawing))
            new, moved = put_in(drawing, "new", 0, 0)
            less = taken_out(drawing, drawing.sheet().net().names()[0])
            told = copy.deepcopy([samples.told_by_drawing(one) for one in (new, less)])
            for one in (drawing, new, less):
                samples.spoil([moved, one.order(), one.places(), one.sheet().rows(), one.sheet().net().names()])
            self.assertEqual(samples.told_by_drawing(drawing), elder)
            self.assertEqual([samples.told_by_drawing(one) for one in (new, less)], told)


if __name__ == "__main__":
    unittest.main()
