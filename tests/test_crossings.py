"""Points 16 and 17: orders of a sheet, the pairs that cross, and two nodes of a row; point 2 for all of these."""

import itertools
import unittest

from arrowtiers.crossings import crossing_pairs, crossings, sum_of
from arrowtiers.errors import NoNode, NoOrder, NoRow
from arrowtiers.sheets import Sheet, first_order

import samples

BIG = samples.BIG


class Crossings(unittest.TestCase):
    def check(self, sheet, order):
        wanted = samples.pairs_of(sheet, order)
        for given in samples.kinds_of(order):
            told = crossing_pairs(sheet, given)
            self.assertEqual(told, wanted)
            self.assertIs(type(told), list)
            self.assertTrue(all(type(pair) is tuple for pair in told))
            many = crossings(sheet, given)
            self.assertEqual(many, len(wanted))
            self.assertIs(type(many), int)
        return wanted

    def test_two_arrows(self):
        for arrows, pairs in (([(0, 2), (1, 3)], []), ([(0, 3), (1, 2)], [(0, 1)]), ([(1, 2), (0, 3)], [(0, 1)])):
            sheet = samples.flat_sheet(2, 2, arrows)
            self.assertEqual(self.check(sheet, [[0, 1], [2, 3]]), pairs)
            self.assertEqual(self.check(sheet, [[1, 0], [3, 2]]), pairs)
            self.assertNotEqual(self.check(sheet, [[1, 0], [2, 3]]), pairs)
            self.assertNotEqual(self.check(sheet, [[0, 1], [3, 2]]), pairs)

    def test_ends_in_common(self):
        for sheet in (samples.flat_sheet(1, 2, [(0, 1), (0, 2)]), samples.flat_sheet(2, 1, [(0, 2), (1, 2)])):
            for upper in itertools.permutations(sheet.nodes_in(0)):
                for lower in itertools.permutations(sheet.nodes_in(1)):
                    self.assertEqual(self.check(sheet, [upper, lower]), [])

    def test_two_arrows_between_the_same_boxes(self):
        # Both begin and end together, but their bends may stand either way.
        sheet = Sheet(samples.net_of(2, [(0, 1), (1, 0)]), [1], [0, 3])
        self.assertEqual(self.check(sheet, [[0], [2, 4], [3, 5], [1]]), [])
        self.assertEqual(self.check(sheet, [[0], [2, 4], [5, 3], [1]]), [(1, 4)])
        self.assertEqual(self.check(sheet, [[0], [4, 2], [5, 3], [1]]), [])

    def test_pieces_of_other_rows_do_not_cross(self):
        # Arrow 0 goes from row 0 to row 1, arrow 1 from row 1 to row 2.
        sheet = Sheet(samples.net_of(4, [(0, 1), (2, 3)]), [], [0, 1, 1, 2])
        for line in ([1, 2], [2, 1]):
            self.assertEqual(self.check(sheet, [[0], line, [3]]), [])

    def test_all_of_three_by_three(self):
        sheet = samples.flat_sheet(3, 3, [(a, b) for a in range(3) for b in range(3, 6)])
        self.assertEqual(len(self.check(sheet, [[0, 1, 2], [3, 4, 5]])), 9)
        for upper in itertools.permutations(range(3)):
            for lower in itertools.permutations(range(3, 6)):
                self.assertEqual(len(self.check(sheet, [upper, lower])), 9)

    def test_six_all_crossing(self):
        sheet = samples.flat_sheet(6, 6, [(k, 11 - k) for k in range(6)])
        self.assertEqual(self.check(sheet, first_order(sheet)), list(itertools.combinations(range(6), 2)))
        self.assertEqual(self.check(sheet, [range(6), range(11, 5, -1)]), [])

    def test_pairs_of_several_rows_rise(self):
        # By rows the pairs come as (0, 4), (2, 4), (1, 3); told they rise.
        sheet = Sheet(samples.net_of(6, [(0, 3), (1, 2), (5, 4)]), [], [0, 0, 2, 2, 1, 0])
        order = [[0, 1, 5], [4, 6, 7], [2, 3]]
        self.assertEqual(self.check(sheet, order), [(0, 4), (1, 3), (2, 4)])

    def test_rows_without_nodes(self):
        sheet = Sheet(samples.net_of(5, [(0, 3), (1, 2)]), [], [2, 2, 3, 3, 7])
        empty = [[], []]
        self.assertEqual(self.check(sheet, empty + [[0, 1], [2, 3]] + empty + [[], [4]]), [(0, 1)])
        self.assertEqual(self.check(sheet, empty + [[1, 0], [2, 3]] + empty + [[], [4]]), [])

    def test_no_pieces(self):
        sheet = Sheet(samples.net_of(12, []), [], [3] * 6 + [4] * 6)
        self.assertEqual(self.check(sheet, first_order(sheet)), [])

    def test_every_order_of_small_sheets(self):
        for sheet in samples.some_sheets(161, samples.some_nets(162, 12, 3, 4, 5)):
            for order in itertools.islice(samples.all_orders(sheet), 200):
                self.check(sheet, order)

    def test_many_sheets(self):
        dice = samples.chance(163)
        nets = samples.some_nets(164, 40, 1, 12) + samples.great_nets(165, 6)
        for sheet in samples.some_sheets(166, nets):
            self.check(sheet, first_order(sheet))
            self.check(sheet, samples.some_order(dice, sheet))


class SumOf(unittest.TestCase):
    def check(self, sheet, order):
        """All pairs of nodes of all rows; with their sums the crossings are found again."""
        crossed = 0
        for line in order[1:]:
            for u, v in itertools.permutations(line, 2):
                wanted = samples.sum_by_pieces(sheet, order, u, v)
                told = sum_of(sheet, order, u, v)
                self.assertIs(type(told), int)
                self.assertEqual(told, wanted)
                crossed += told if line.index(u) < line.index(v) else 0
        self.assertEqual(crossed, len(samples.pairs_of(sheet, order)))

    def test_an_example(self):
        sheet = samples.flat_sheet(3, 2, [(0, 3), (1, 3), (2, 3), (0, 4), (1, 4)])
        order = [[0, 1, 2], [3, 4]]
        for given in samples.kinds_of(order):
            # Arrows to 3 come from places 0, 1 and 2, those to 4 from 0 and 1.
            self.assertEqual(sum_of(sheet, given, 3, 4), 3)
            self.assertEqual(sum_of(sheet, given, 4, 3), 1)
        self.assertEqual(sum_of(sheet, [[2, 0, 1], [4, 3]], 3, 4), 1)
        self.assertEqual(sum_of(sheet, [[2, 0, 1], [4, 3]], 4, 3), 3)

    def test_its_own_row_has_no_part_in_it(self):
        sheet = samples.flat_sheet(3, 3, [(0, 3), (1, 4), (2, 5), (2, 3), (0, 5)])
        for lower in itertools.permutations((3, 4, 5)):
            for u, v in itertools.permutations((3, 4, 5), 2):
                for upper in itertools.permutations((0, 1, 2)):
                    told = sum_of(sheet, [upper, lower], u, v)
                    self.assertEqual(told, sum_of(sheet, [upper, (3, 4, 5)], u, v))

    def test_pieces_that_go_down_have_no_part_in_it(self):
        sheet = Sheet(samples.net_of(6, [(0, 2), (1, 3), (2, 4), (3, 5)]), [], [0, 0, 1, 1, 2, 2])
        order = [[0, 1], [2, 3], [5, 4]]
        self.assertEqual((sum_of(sheet, order, 2, 3), sum_of(sheet, order, 3, 2)), (0, 1))
        self.assertEqual((sum_of(sheet, order, 4, 5), sum_of(sheet, order, 5, 4)), (0, 1))

    def test_nodes_without_pieces(self):
        sheet = samples.flat_sheet(2, 3, [(0, 2), (1, 2)])
        for u, v in itertools.permutations((2, 3, 4), 2):
            self.assertEqual(sum_of(sheet, first_order(sheet), u, v), 0)

    def test_a_row_below_an_empty_one(self):
        sheet = Sheet(samples.net_of(3, []), [], [1, 1, 1])
        for u, v in itertools.permutations(range(3), 2):
            self.assertEqual(sum_of(sheet, [[], [2, 0, 1]], u, v), 0)

    def test_many_sheets(self):
        dice = samples.chance(171)
        for sheet in samples.some_sheets(172, samples.some_nets(173, 25, 2, 9, 12)):
            self.check(sheet, first_order(sheet))
            self.check(sheet, samples.some_order(dice, sheet))

    def test_great_sheets(self):
        dice = samples.chance(174)
        net = samples.net_of(12, [(a, b) for a in range(4) for b in range(6, 12)])
        for rows in ([0] * 6 + [1] * 6, [0, 0, 1, 1, 2, 2, 3, 3, 3, 4, 4, 4]):
            self.check(Sheet(net, [], rows), samples.some_order(dice, Sheet(net, [], rows)))


class Refused(unittest.TestCase):
    def setUp(self):
        self.sheet = samples.sheet_for_orders()
        self.order = first_order(self.sheet)

    def test_no_order(self):
        samples.check_no_order(self, crossings)
        samples.check_no_order(self, crossing_pairs)

    def test_no_order_of_a_sheet_with_empty_rows(self):
        sheet = Sheet(samples.net_of(2, [(0, 1)]), [], [1, 2])
        self.assertEqual(crossings(sheet, [[], [0], [1]]), 0)
        for order in ([[0], [1]], [[0], [1], []], [[0], [], [1]], [[], [0], [1], []], [[0], [0], [1]], [[1], [0], []]):
            self.assertRaises(NoOrder, crossings, sheet, order)

    def test_no_order_ahead_of_all(self):
        for u, v in ((3, 4), (0, 0), (0, 1), (-1, 3), (3, 99), (0, 3), (BIG, -BIG)):
            samples.check_no_order(self, lambda sheet, order: sum_of(sheet, order, u, v))

    def test_no_node(self):
        nodes = range(self.sheet.many_nodes())
        for u in nodes:
            for v in nodes:
                if u == v or self.sheet.row_of(u) != self.sheet.row_of(v):
                    self.assertRaises(NoNode, sum_of, self.sheet, self.order, u, v)
            for v in (-1, -2, len(nodes), len(nodes) + 1, BIG, -BIG, u - len(nodes)):
                self.assertRaises(NoNode, sum_of, self.sheet, self.order, u, v)
                self.assertRaises(NoNode, sum_of, self.sheet, self.order, v, u)
        for u, v in ((-1, -1), (-1, -2), (99, 99), (99, 100), (BIG, BIG), (-1, 99)):
            self.assertRaises(NoNode, sum_of, self.sheet, self.order, u, v)

    def test_no_row(self):
        self.assertRaises(NoRow, sum_of, self.sheet, self.order, 0, 1)
        self.assertRaises(NoRow, sum_of, self.sheet, self.order, 1, 0)
        sheet = Sheet(samples.net_of(12, []), [], [0] * 12)
        for u, v in itertools.permutations(range(12), 2):
            self.assertRaises(NoRow, sum_of, sheet, [list(range(12))], u, v)


class LeftAlone(unittest.TestCase):
    """Point 2."""

    def setUp(self):
        self.sheet, self.order, self.other = samples.two_orders()
        self.before = (self.sheet.pieces(), first_order(self.sheet))

    def tearDown(self):
        self.assertEqual((self.sheet.pieces(), first_order(self.sheet)), self.before)

    def asks(self):
        return (
            lambda order: crossings(self.sheet, order), lambda order: crossing_pairs(self.sheet, order),
            lambda order: sum_of(self.sheet, order, 3, 4), lambda order: sum_of(self.sheet, order, 7, 6),
        )

    def test_kept_apart(self):
        for ask in self.asks():
            samples.check_orders_apart(self, ask, self.order, self.other)

    def test_refused(self):
        for ask in self.asks():
            samples.check_refused_leaves(self, NoOrder, ask, [[0, 2, 1], [4, 3, 6, 6], [5]])


if __name__ == "__main__":
    unittest.main()
