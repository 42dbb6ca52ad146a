"""Point 24: drawings, and what they tell; point 2 for them."""

import copy
import unittest

from arrowtiers.drawings import Drawing
from arrowtiers.errors import NoNumber, NoOrder, NoPlaces
from arrowtiers.nets import Net
from arrowtiers.sheets import Sheet, first_order

import samples

BIG = samples.BIG
told_by = samples.told_by_drawing


class Drawings(unittest.TestCase):
    def check(self, sheet, order, gap, places):
        wanted = (samples.told_by_sheet(sheet), [list(line) for line in order], gap, list(places))
        for given in samples.kinds_of(order):
            for these in (list(places), tuple(places)):
                drawing = Drawing(sheet, given, gap, these)
                self.assertEqual(told_by(drawing), wanted)
                self.assertIsInstance(drawing.sheet(), Sheet)
                self.assertIs(type(drawing.gap()), int)
                samples.check_numbers(self, drawing.places())
                self.assertIs(type(drawing.order()), list)
                for line in drawing.order():
                    samples.check_numbers(self, line)

    def test_one_box(self):
        sheet = Sheet(Net(["abcdefgh"], []), [], [0])
        for gap in (1, 100):
            for place in (0, 1, 10 ** 60 - 1):
                self.check(sheet, [[0]], gap, [place])

    def test_rows_without_nodes(self):
        sheet = Sheet(Net(["ab", "c"], []), [], [2, 2])
        self.check(sheet, [[], [], [1, 0]], 3, [4, 0])

    def test_many_drawings(self):
        for drawing in samples.some_drawings(241, samples.some_nets(242, 20, 1, 12)):
            self.check(drawing.sheet(), drawing.order(), drawing.gap(), drawing.places())


class Refused(unittest.TestCase):
    def setUp(self):
        self.sheet = samples.sheet_for_orders()
        self.order = first_order(self.sheet)
        self.places = [0, 2, 0, 0, 2, 4, 2, 0, 2]

    def test_no_order(self):
        for gap in (1, 0, 101):
            for places in (self.places, [], [-1] * 9, [0] * 9):
                samples.check_no_order(self, lambda sheet, order: Drawing(sheet, order, gap, places))

    def test_no_number(self):
        for gap in (0, -1, 101, BIG, -BIG):
            for places in (self.places, [], [-1] * 9, [0] * 9, self.places + [0]):
                for order in samples.kinds_of(self.order):
                    self.assertRaises(NoNumber, Drawing, self.sheet, order, gap, places)

    def test_no_places(self):
        good = self.places
        self.assertEqual(Drawing(self.sheet, self.order, 1, good).places(), good)
        for places in ([], good[:-1], good + [0], good + good, [-1] + good[1:], [1] + good[1:], [0, 1] + good[2:],
                       good[:-1] + [1], good[:-1] + [-BIG], [0] * 9, good[::-1], [BIG] + good[1:]):
            for these in (places, tuple(places)):
                for order in samples.kinds_of(self.order):
                    self.assertRaises(NoPlaces, Drawing, self.sheet, order, 1, these)

    def test_the_gap_just_kept_and_just_not(self):
        sheet = Sheet(Net(["abc", "d"], []), [], [0, 0])
        for gap in (1, 2, 99, 100):
            self.assertEqual(Drawing(sheet, [[0, 1]], gap, [0, 3 + gap]).gap(), gap)
            self.assertRaises(NoPlaces, Drawing, sheet, [[0, 1]], gap, [0, 2 + gap])


class LeftAlone(unittest.TestCase):
    """Point 2."""

    def test_handed_lists_altered(self):
        sheet, order, other = samples.two_orders()
        places = samples.some_places(samples.chance(243), sheet, order, 2)
        before = copy.deepcopy((order, places))
        drawing = Drawing(sheet, order, 2, places)
        self.assertEqual((order, places), before)
        wanted = copy.deepcopy(told_by(drawing))
        samples.spoil(order)
        samples.spoil(places)
        self.assertEqual(told_by(drawing), wanted)

    def test_told_lists_altered(self):
        for drawing in samples.some_drawings(244, samples.some_nets(245, 5, 2, 9)):
            wanted = copy.deepcopy(told_by(drawing))
            for ask in (drawing.order, drawing.places, drawing.sheet().rows, drawing.sheet().turned,
                        drawing.sheet().pieces, drawing.sheet().net().names, drawing.sheet().net().arrows):
                samples.spoil(ask())
                self.assertEqual(told_by(drawing), wanted)

    def test_the_same_lists_altered_and_handed_in_again(self):
        sheet, order, other = samples.two_orders()
        dice = samples.chance(246)

        def ask(lists):
            return told_by(Drawing(sheet, lists[0], 2, lists[1]))
        one, another = ([these, samples.some_places(dice, sheet, these, 2)] for these in (order, other))
        samples.check_asked_anew(self, ask, one, another)
        samples.check_kept_apart(self, ask, one)

    def test_refused(self):
        sheet, order, other = samples.two_orders()
        samples.check_refused_leaves(
            self, NoPlaces, lambda order, places: Drawing(sheet, order, 1, places), order, [0] * 8)


if __name__ == "__main__":
    unittest.main()
