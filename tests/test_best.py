"""Point 18: a row put best below the row above it; point 2 for it."""

import itertools
import unittest

from arrowtiers.best import best_row
from arrowtiers.errors import NoOrder, NoRow, TooMany
from arrowtiers.sheets import Sheet, first_order

import samples

BIG = samples.BIG


def crossed_above(sheet, order, row, line):
    """How many pairs cross between this row, put in that order, and the row above it."""
    above = {node: at for at, node in enumerate(order[row - 1])}
    here = {node: at for at, node in enumerate(line)}
    ends = [(above[a], here[b]) for a, b in sheet.pieces() if b in here]
    return sum((a - c) * (b - d) < 0 for (a, b), (c, d) in itertools.combinations(ends, 2))


def put_into(order, row, line):
    return [list(line) if at == row else list(old) for at, old in enumerate(order)]


class BestRow(unittest.TestCase):
    def check(self, sheet, order, row, by_all=True):
        told = best_row(sheet, order, row)
        self.assertIs(type(told), tuple)
        line, many, floor = told
        samples.check_numbers(self, [many, floor])
        samples.check_numbers(self, line)
        self.assertEqual(sorted(line), sorted(order[row]))
        put = put_into(order, row, line)
        numbers = [at for at, (a, b) in enumerate(sheet.pieces()) if sheet.row_of(b) == row]
        self.assertEqual(many, len([pair for pair in samples.pairs_of(sheet, put) if pair[0] in numbers]))
        pairs = itertools.combinations(order[row], 2)
        lesser = [min(samples.sum_by_pieces(sheet, order, *two) for two in ((u, v), (v, u))) for u, v in pairs]
        self.assertEqual(floor, sum(lesser))
        self.assertLessEqual(floor, many)
        if by_all and len(line) <= 6:
            others = itertools.permutations(line)
            self.assertEqual(many, min(crossed_above(sheet, order, row, other) for other in others))
        return told

    def test_two_arrows(self):
        for arrows in ([(0, 2), (1, 3)], [(0, 3), (1, 2)]):
            sheet = samples.flat_sheet(2, 2, arrows)
            for upper in ([0, 1], [1, 0]):
                below = dict(arrows)
                for lower in ([2, 3], [3, 2]):
                    told = self.check(sheet, [upper, lower], 1)
                    self.assertEqual(told, ([below[node] for node in upper], 0, 0))

    def test_none_can_be_better(self):
        sheet = samples.flat_sheet(3, 3, [(a, b) for a in range(3) for b in range(3, 6)])
        for lower in itertools.permutations((3, 4, 5)):
            self.assertEqual(self.check(sheet, [[0, 1, 2], lower], 1)[1:], (9, 9))

    def test_floor_below_the_best(self):
        # Of any two of these three one should be left, but not of all three at once.
        comes = {9: (2, 4, 9), 10: (1, 6, 8), 11: (3, 5, 7)}
        sheet = samples.flat_sheet(9, 3, [(place - 1, node) for node in comes for place in comes[node]])
        for lower in itertools.permutations(comes):
            self.assertEqual(self.check(sheet, [list(range(9)), lower], 1)[1:], (13, 12))

    def test_the_same_two_boxes_joined_twice(self):
        # Both pieces of arrows 0 and 1 count.
        sheet = Sheet(samples.net_of(4, [(0, 3), (3, 0), (1, 2), (1, 3), (0, 2)]), [1], [0, 0, 1, 1])
        self.assertEqual(self.check(sheet, [[0, 1], [2, 3]], 1), ([3, 2], 1, 1))
        self.assertEqual(self.check(sheet, [[1, 0], [2, 3]], 1), ([2, 3], 1, 1))

    def test_the_rows_below_and_the_row_itself_have_no_part_in_it(self):
        dice = samples.chance(181)
        for sheet in samples.some_sheets(182, samples.some_nets(183, 10, 4, 9, 9)):
            order = samples.some_order(dice, sheet)
            for row in range(1, sheet.many_rows()):
                if len(order[row]) > 8:
                    continue
                told = self.check(sheet, order, row)
                other = samples.some_order(dice, sheet)
                other[row - 1] = order[row - 1]
                self.assertEqual(best_row(sheet, other, row)[1:], told[1:])

    def test_the_row_above_as_it_stands(self):
        sheet = samples.flat_sheet(3, 3, [(0, 3), (1, 4), (2, 5)])
        for upper in itertools.permutations(range(3)):
            line = [node + 3 for node in upper]
            self.assertEqual(self.check(sheet, [upper, [5, 3, 4]], 1), (line, 0, 0))

    def test_no_node(self):
        sheet = Sheet(samples.net_of(3, []), [], [2, 4, 4])
        order = [[], [], [0], [], [2, 1]]
        for row in (1, 3):
            self.assertEqual(self.check(sheet, order, row), ([], 0, 0))
        self.assertEqual(self.check(sheet, order, 2), ([0], 0, 0))
        self.assertEqual(self.check(sheet, order, 4)[1:], (0, 0))

    def test_below_a_row_with_no_node(self):
        sheet = Sheet(samples.net_of(8, []), [], [1] * 8)
        self.assertEqual(self.check(sheet, [[], list(range(8))], 1)[1:], (0, 0))

    def test_one_node(self):
        sheet = samples.flat_sheet(3, 1, [(0, 3), (1, 3), (2, 3)])
        self.assertEqual(self.check(sheet, [[2, 0, 1], [3]], 1), ([3], 0, 0))

    def test_bends_are_nodes_too(self):
        sheet = Sheet(samples.net_of(4, [(0, 2), (1, 3)]), [], [0, 0, 3, 3])
        # Rows of the nodes: [0, 1], [4, 6], [5, 7], [2, 3].
        order = [[1, 0], [4, 6], [5, 7], [2, 3]]
        self.assertEqual(self.check(sheet, order, 1), ([6, 4], 0, 0))
        self.assertEqual(self.check(sheet, order, 2), ([5, 7], 0, 0))
        self.assertEqual(self.check(sheet, order, 3), ([2, 3], 0, 0))

    def test_all_orders_of_many_rows(self):
        dice = samples.chance(184)
        nets = samples.some_nets(185, 25, 2, 10, 16)
        for sheet in samples.some_sheets(186, nets):
            for order in (first_order(sheet), samples.some_order(dice, sheet)):
                for row in range(1, sheet.many_rows()):
                    if len(order[row]) <= 6:
                        self.check(sheet, order, row)

    def test_rows_of_six_full_of_arrows(self):
        dice = samples.chance(187)
        pairs = [(a, b) for a in range(6) for b in range(6, 12)]
        for many in (8, 12, 16, 20, 24):
            sheet = samples.flat_sheet(6, 6, dice.sample(pairs, many))
            self.check(sheet, samples.some_order(dice, sheet), 1)

    def test_rows_of_eight(self):
        dice = samples.chance(188)
        pairs = [(a, b) for a in range(4) for b in range(4, 12)]
        for many in (8, 16, 24):
            sheet = samples.flat_sheet(4, 8, dice.sample(pairs, many))
            order = samples.some_order(dice, sheet)
            samples.check_time(self, lambda: best_row(sheet, order, 1), 2)
            line, many, floor = self.check(sheet, order, 1)
            for count in range(200):
                other = dice.sample(line, 8)
                self.assertLessEqual(many, crossed_above(sheet, order, 1, other))

    def test_eight_bends_that_need_not_cross(self):
        dice = samples.chance(189)
        sheet = Sheet(samples.net_of(8, [(a, b) for a in range(2) for b in range(2, 6)]), [], [0, 0] + [3] * 6)
        order = [[1, 0]] + [dice.sample(sheet.nodes_in(row), len(sheet.nodes_in(row))) for row in (1, 2, 3)]
        for row in (1, 2):
            line, many, floor = self.check(sheet, order, row)
            self.assertEqual((len(line), many, floor), (8, 0, 0))
            order = put_into(order, row, line)

    def test_all_orders_of_a_row_of_seven(self):
        dice = samples.chance(190)
        sheet = samples.flat_sheet(5, 7, dice.sample([(a, b) for a in range(5) for b in range(5, 12)], 20))
        order = samples.some_order(dice, sheet)
        told = self.check(sheet, order, 1)
        others = itertools.permutations(order[1])
        self.assertEqual(told[1], min(crossed_above(sheet, order, 1, other) for other in others))


class Refused(unittest.TestCase):
    def test_no_order(self):
        for row in (1, 3, 0, -1, 4, BIG):
            samples.check_no_order(self, lambda sheet, order: best_row(sheet, order, row))

    def test_no_order_ahead_of_too_many(self):
        sheet = samples.flat_sheet(3, 9, [])
        self.assertRaises(TooMany, best_row, sheet, first_order(sheet), 1)
        for order in ([[0, 1, 2]], [[0, 1, 2], list(range(3, 11))], [[0, 1, 1], list(range(3, 12))]):
            for row in (1, 0, 2):
                for given in samples.kinds_of(order):
                    self.assertRaises(NoOrder, best_row, sheet, given, row)

    def test_no_row(self):
        sheet = samples.sheet_for_orders()
        for row in (0, -1, -2, -3, -4, -5, 4, 5, BIG, -BIG):
            self.assertRaises(NoRow, best_row, sheet, first_order(sheet), row)

    def test_no_row_of_one_row(self):
        for boxes in (1, 8, 9, 12):
            sheet = Sheet(samples.net_of(boxes, []), [], [0] * boxes)
            for row in (0, 1, -1):
                self.assertRaises(NoRow, best_row, sheet, first_order(sheet), row)

    def test_the_first_row_is_none_even_without_nodes(self):
        sheet = Sheet(samples.net_of(1, []), [], [1])
        self.assertRaises(NoRow, best_row, sheet, [[], [0]], 0)
        self.assertEqual(best_row(sheet, [[], [0]], 1), ([0], 0, 0))

    def test_too_many(self):
        for below in (9, 10, 11):
            sheet = samples.flat_sheet(12 - below, below, [(0, 11)])
            self.assertRaises(TooMany, best_row, sheet, first_order(sheet), 1)
        sheet = Sheet(samples.net_of(12, []), [], [3] * 12)
        self.assertRaises(TooMany, best_row, sheet, first_order(sheet), 3)

    def test_too_many_bends(self):
        for arrows, refused in ((8, False), (9, True)):
            pairs = [(a, b) for a in range(3) for b in range(3, 6)][:arrows]
            sheet = Sheet(samples.net_of(6, pairs), [], [0] * 3 + [2] * 3)
            if refused:
                self.assertRaises(TooMany, best_row, sheet, first_order(sheet), 1)
            else:
                self.assertEqual(len(best_row(sheet, first_order(sheet), 1)[0]), 8)

    def test_no_row_ahead_of_too_many(self):
        sheet = samples.flat_sheet(9, 3, [])
        for row in (0, 2, -1, -2):
            self.assertRaises(NoRow, best_row, sheet, first_order(sheet), row)

    def test_many_nodes_above_are_none_too_many(self):
        sheet = samples.flat_sheet(10, 2, [(a, 10 + a % 2) for a in range(10)])
        self.assertEqual(len(best_row(sheet, first_order(sheet), 1)[0]), 2)


class LeftAlone(unittest.TestCase):
    """Point 2."""

    def setUp(self):
        self.sheet, self.order, self.other = samples.two_orders()

    def test_kept_apart(self):
        samples.check_orders_apart(self, lambda order: best_row(self.sheet, order, 1), self.order, self.other)
        self.assertEqual(first_order(self.sheet), [[0, 1, 2], [3, 4, 6, 7], [5]])

    def test_refused(self):
        for refusal, row in ((NoRow, 0), (NoRow, 3)):
            samples.check_refused_leaves(self, refusal, lambda order: best_row(self.sheet, order, row), self.order)


if __name__ == "__main__":
    unittest.main()
