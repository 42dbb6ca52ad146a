"""Points 14 and 15: sheets, their nodes and pieces, and what they tell; point 2 for them."""

import copy
import itertools
import unittest

from arrowtiers.errors import NoArrow, NoNode, NoRow, NoRows, Ringed
from arrowtiers.nets import Net
from arrowtiers.sheets import Sheet, first_order

import samples

FIVE = samples.net_of(4, [(0, 1), (1, 2), (2, 0), (2, 3), (3, 1)])
BIG = samples.BIG


def told_by(sheet):
    return (*samples.told_by_sheet(sheet), first_order(sheet))


class Examples(unittest.TestCase):
    def test_one_box(self):
        sheet = Sheet(samples.net_of(1, []), [], [0])
        self.assertEqual((sheet.many_rows(), sheet.many_nodes(), sheet.pieces()), (1, 1, []))
        self.assertEqual((sheet.row_of(0), sheet.arrow_of(0), sheet.nodes_in(0)), (0, None, [0]))
        self.assertEqual((sheet.turned(), sheet.rows(), first_order(sheet)), ([], [0], [[0]]))

    def test_one_box_in_the_last_row(self):
        sheet = Sheet(samples.net_of(1, []), [], [11])
        self.assertEqual((sheet.many_rows(), sheet.many_nodes()), (12, 1))
        self.assertEqual(first_order(sheet), [[]] * 11 + [[0]])
        self.assertEqual((sheet.nodes_in(10), sheet.nodes_in(11), sheet.row_of(0)), ([], [0], 11))

    def test_an_arrow_to_the_next_row(self):
        sheet = Sheet(samples.net_of(2, [(1, 0)]), [], [4, 3])
        self.assertEqual((sheet.many_rows(), sheet.many_nodes(), sheet.pieces()), (5, 2, [(1, 0)]))
        self.assertEqual((sheet.way(0), first_order(sheet)), ([1, 0], [[], [], [], [1], [0]]))

    def test_an_arrow_over_all_rows(self):
        sheet = Sheet(samples.net_of(2, [(0, 1)]), [], [0, 11])
        self.assertEqual(sheet.many_nodes(), 12)
        self.assertEqual(sheet.way(0), [0] + list(range(2, 12)) + [1])
        self.assertEqual(sheet.pieces(), list(zip(sheet.way(0), sheet.way(0)[1:])))
        self.assertEqual([sheet.row_of(node) for node in range(12)], [0, 11] + list(range(1, 11)))
        self.assertEqual([sheet.arrow_of(node) for node in range(12)], [None, None] + [0] * 10)

    def test_a_turned_arrow_over_all_rows(self):
        sheet = Sheet(samples.net_of(2, [(0, 1)]), [0], [11, 0])
        self.assertEqual(sheet.way(0), [1] + list(range(2, 12)) + [0])
        self.assertEqual([sheet.row_of(node) for node in range(12)], [11, 0] + list(range(1, 11)))
        self.assertEqual((sheet.turned(), sheet.rows()), ([0], [11, 0]))

    def test_bends_and_pieces_by_arrows(self):
        arrows = [(0, 3), (3, 1), (2, 3), (0, 1), (2, 0)]
        sheet = Sheet(samples.net_of(4, arrows), [4, 2], [0, 4, 5, 2])
        self.assertEqual([sheet.way(arrow) for arrow in range(5)], [
            [0, 4, 3], [3, 5, 1], [3, 6, 7, 2], [0, 8, 9, 10, 1], [0, 11, 12, 13, 14, 2],
        ])
        self.assertEqual(sheet.pieces(), [
            (0, 4), (4, 3), (3, 5), (5, 1), (3, 6), (6, 7), (7, 2), (0, 8), (8, 9), (9, 10), (10, 1),
            (0, 11), (11, 12), (12, 13), (13, 14), (14, 2),
        ])
        self.assertEqual(first_order(sheet), [[0], [4, 8, 11], [3, 9, 12], [5, 6, 10, 13], [1, 7, 14], [2]])
        self.assertEqual([sheet.arrow_of(node) for node in range(15)], [None] * 4 + [0, 1, 2, 2, 3, 3, 3, 4, 4, 4, 4])
        self.assertEqual((sheet.many_rows(), sheet.many_nodes(), sheet.turned()), (6, 15, [2, 4]))

    def test_empty_rows_ahead_and_between_parts(self):
        sheet = Sheet(samples.net_of(3, [(2, 1)]), [], [9, 3, 2])
        self.assertEqual(first_order(sheet), [[], [], [2], [1], [], [], [], [], [], [0]])
        self.assertEqual((sheet.many_rows(), sheet.many_nodes(), sheet.pieces()), (10, 3, [(2, 1)]))

    def test_two_arrows_between_the_same_boxes(self):
        sheet = Sheet(samples.net_of(2, [(0, 1), (1, 0)]), [0], [2, 0])
        self.assertEqual(sheet.pieces(), [(1, 2), (2, 0), (1, 3), (3, 0)])
        self.assertEqual((sheet.way(0), sheet.way(1)), ([1, 2, 0], [1, 3, 0]))

    def test_no_arrows(self):
        sheet = Sheet(samples.net_of(12, []), [], [5] * 12)
        self.assertEqual((sheet.pieces(), sheet.many_nodes(), sheet.many_rows()), ([], 12, 6))
        self.assertEqual(first_order(sheet), [[]] * 5 + [list(range(12))])


class ManySheets(unittest.TestCase):
    def check(self, sheet, net, turned, rows):
        ends = samples.goes(net, turned)
        self.assertEqual((sheet.turned(), sheet.rows()), (sorted(turned), list(rows)))
        self.assertEqual(sheet.many_rows(), max(rows) + 1)
        bends = [(k, row) for k, (a, b) in enumerate(ends) for row in range(12) if rows[a] < row < rows[b]]
        self.assertEqual(sheet.many_nodes(), net.many() + len(bends))
        arrow_of = [None] * net.many() + [k for k, row in bends]
        row_of = list(rows) + [row for k, row in bends]
        for node in range(sheet.many_nodes()):
            self.assertEqual((sheet.arrow_of(node), sheet.row_of(node)), (arrow_of[node], row_of[node]))
        for row in range(sheet.many_rows()):
            self.assertEqual(sheet.nodes_in(row), [node for node, its in enumerate(row_of) if its == row])
        pieces = []
        for arrow, (a, b) in enumerate(ends):
            way = [a] + [node for node, its in enumerate(arrow_of) if its == arrow] + [b]
            self.assertEqual(sheet.way(arrow), way)
            self.assertEqual([row_of[node] for node in way], list(range(rows[a], rows[b] + 1)))
            pieces += [(way[k], way[k + 1]) for k in range(len(way) - 1)]
        self.assertEqual(sheet.pieces(), pieces)
        self.assertEqual(first_order(sheet), [sheet.nodes_in(row) for row in range(sheet.many_rows())])

    def test_close_and_loose_rows(self):
        dice = samples.chance(151)
        for net in samples.some_nets(152, 120, 1, 12) + samples.great_nets(153, 10):
            turned = samples.ringless_turned(dice, net)
            for rows in (samples.close_rows(net, turned), samples.loose_rows(dice, net, turned)):
                self.check(Sheet(net, turned, rows), net, turned, rows)
                self.check(Sheet(net, tuple(turned), tuple(rows)), net, turned, rows)

    def test_all_rows_of_a_small_net(self):
        net = samples.net_of(3, [(0, 1), (2, 1), (2, 0)])
        for turned in ([], [0], [1], [2], [2, 1], [1, 0, 2]):
            ends = samples.goes(net, turned)
            for rows in itertools.product(range(6), repeat=3):
                if all(rows[a] < rows[b] for a, b in ends):
                    self.check(Sheet(net, turned, rows), net, turned, rows)
                elif not samples.has_ring(3, ends):
                    self.assertRaises(NoRows, Sheet, net, turned, rows)

    def test_the_net_is_told(self):
        net = samples.net_of(3, [(0, 1), (2, 1)])
        sheet = Sheet(net, [1], [0, 1, 2])
        self.assertIsInstance(sheet.net(), Net)
        self.assertEqual((sheet.net().names(), sheet.net().arrows()), (net.names(), net.arrows()))

    def test_turned_ones_are_told_rising(self):
        net = samples.net_of(4, [(1, 0), (2, 0), (3, 0), (0, 1)])
        for turned in itertools.permutations(range(3)):
            self.assertEqual(Sheet(net, turned, [0, 1, 2, 3]).turned(), [0, 1, 2])

    def test_kinds(self):
        sheet = Sheet(FIVE, (4, 2), (0, 2, 4, 7))
        for told in (sheet.turned(), sheet.rows(), sheet.nodes_in(1), sheet.way(0), sheet.nodes_in(0)):
            samples.check_numbers(self, told)
        for number in (sheet.many_rows(), sheet.many_nodes(), sheet.row_of(5), sheet.arrow_of(5)):
            self.assertIs(type(number), int)
        self.assertIs(type(sheet.pieces()), list)
        self.assertTrue(all(type(piece) is tuple and len(piece) == 2 for piece in sheet.pieces()))
        self.assertIs(type(first_order(sheet)), list)
        self.assertTrue(all(type(line) is list for line in first_order(sheet)))

    def test_methods_stand_in_the_class_itself(self):
        for name in ("net", "turned", "rows", "many_rows", "many_nodes", "row_of", "nodes_in", "pieces", "way",
                     "arrow_of"):
            self.assertIn(name, vars(Sheet))


class Refused(unittest.TestCase):
    DOWN = [0, 1, 2, 3]
    NONE = (
        [], [0], [0, 1, 2], [0, 1, 2, 3, 4], [0, 1, 2, 3] * 3, [-1, 1, 2, 3], [0, 1, 2, 12], [0, 1, 2, 13],
        [0, 1, 2, BIG], [-BIG, 1, 2, 3], [-4, -3, -2, -1], [9, 10, 11, 12],
    )
    NOT_DOWN = ([0, 0, 0, 0], [3, 2, 1, 0], [0, 1, 2, 2], [0, 2, 2, 3], [1, 1, 2, 3], [5, 1, 6, 7], [0, 1, 3, 2])

    def test_no_rows(self):
        for rows in self.NONE + self.NOT_DOWN:
            self.assertRaises(NoRows, Sheet, FIVE, [2, 4], rows)
            self.assertRaises(NoRows, Sheet, FIVE, (4, 2), tuple(rows))
        Sheet(FIVE, [2, 4], self.DOWN)
        Sheet(FIVE, [2, 4], [8, 9, 10, 11])

    def test_no_rows_of_one_box(self):
        for rows in ([], [-1], [12], [0, 0], [0, 1]):
            self.assertRaises(NoRows, Sheet, samples.net_of(1, []), [], rows)

    def test_down_but_for_the_turned_ones(self):
        net = samples.net_of(2, [(0, 1)])
        self.assertRaises(NoRows, Sheet, net, [0], [0, 1])
        self.assertRaises(NoRows, Sheet, net, [], [1, 0])

    def test_ringed_ahead_of_no_rows(self):
        for rows in (self.DOWN,) + self.NONE + self.NOT_DOWN:
            for turned in ([], [3], (4, 3, 2, 1, 0)):
                with self.assertRaises(Ringed) as caught:
                    Sheet(FIVE, turned, rows)
                samples.check_ring(self, caught.exception.ring, samples.goes(FIVE, turned))

    def test_no_arrow_ahead_of_all(self):
        for rows in (self.DOWN,) + self.NONE + self.NOT_DOWN:
            samples.check_no_turned(self, lambda turned: Sheet(FIVE, turned, rows))

    def test_no_row_no_node_no_arrow(self):
        for sheet in [Sheet(FIVE, [2, 4], [0, 2, 4, 7])] + samples.some_sheets(154, samples.some_nets(155, 10, 1, 12)):
            for row in (-1, -2, -12, sheet.many_rows(), sheet.many_rows() + 1, 12, BIG, -BIG):
                self.assertRaises(NoRow, sheet.nodes_in, row)
            for node in (-1, -2, sheet.many_nodes(), sheet.many_nodes() + 1, BIG, -BIG, -sheet.many_nodes()):
                self.assertRaises(NoNode, sheet.row_of, node)
                self.assertRaises(NoNode, sheet.arrow_of, node)
            many = len(sheet.net().arrows())
            for arrow in (-1, -2, many, many + 1, BIG, -BIG):
                with self.assertRaises(NoArrow) as caught:
                    sheet.way(arrow)
                self.assertEqual(caught.exception.arrow, arrow)

    def test_rows_below_the_last_box(self):
        sheet = Sheet(samples.net_of(2, [(0, 1)]), [], [1, 3])
        self.assertEqual([sheet.nodes_in(row) for row in range(4)], [[], [0], [2], [1]])
        self.assertRaises(NoRow, sheet.nodes_in, 4)


class LeftAlone(unittest.TestCase):
    """Point 2."""

    def setUp(self):
        self.turned = [4, 2]
        self.rows = [0, 2, 4, 7]
        self.sheet = Sheet(FIVE, self.turned, self.rows)
        self.before = told_by(self.sheet)

    def test_what_is_handed_in_stays(self):
        self.assertEqual((self.turned, self.rows), ([4, 2], [0, 2, 4, 7]))

    def test_what_is_refused_stays(self):
        for refusal, turned, rows in ((NoArrow, [4, 4], [0]), (Ringed, [3], [0]), (NoRows, [4, 2], [3, 1, 2, 0])):
            samples.check_refused_leaves(self, refusal, lambda *given: Sheet(FIVE, *given), turned, rows)

    def test_lists_handed_in_may_be_altered(self):
        samples.spoil(self.turned)
        samples.spoil(self.rows)
        self.assertEqual(told_by(self.sheet), self.before)

    def test_lists_told_may_be_altered(self):
        asks = (
            self.sheet.turned, self.sheet.rows, self.sheet.pieces, lambda: self.sheet.nodes_in(3),
            lambda: self.sheet.way(4), lambda: first_order(self.sheet), self.sheet.net().arrows,
        )
        for ask in asks:
            told = ask()
            fresh = copy.deepcopy(told)
            samples.spoil(told)
            self.assertEqual(ask(), fresh)
            self.assertEqual(told_by(self.sheet), self.before)
            self.assertEqual((self.turned, self.rows), ([4, 2], [0, 2, 4, 7]))
        # The list of boxes alone is told where the rows of bends are kept too.
        self.assertEqual(self.sheet.rows(), [0, 2, 4, 7])

    def test_the_same_lists_altered(self):
        def ask(turned):
            return told_by(Sheet(FIVE, turned, [1, 3, 5, 9]))
        samples.check_asked_anew(self, ask, [2, 4], [4, 2])
        self.rows[0] = 1
        self.assertEqual(Sheet(FIVE, self.turned, self.rows).rows(), [1, 2, 4, 7])
        samples.check_asked_anew(
            self, lambda rows: told_by(Sheet(FIVE, [2, 4], rows)), [0, 1, 2, 3], [0, 3, 7, 11],
        )

    def test_tuples(self):
        self.assertEqual(told_by(Sheet(FIVE, (4, 2), (0, 2, 4, 7))), self.before)

    def test_the_same_is_answered_alike(self):
        self.assertEqual(told_by(self.sheet), self.before)
        self.assertEqual(told_by(Sheet(FIVE, [2, 4], [0, 2, 4, 7])), self.before)


if __name__ == "__main__":
    unittest.main()
