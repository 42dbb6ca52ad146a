"""Point 20: sweeps down and up by means; point 2 for them."""

import fractions
import itertools
import unittest

from arrowtiers.errors import NoNumber, NoOrder
from arrowtiers.sheets import Sheet, first_order
from arrowtiers.sweeps import swept

import samples

BIG = samples.BIG


def mean_of(sheet, line, node, beside):
    ends = [b if a == node else a for a, b in sheet.pieces() if node in (a, b)]
    places = [beside.index(end) for end in ends if end in beside]
    return fractions.Fraction(sum(places), len(places)) if places else fractions.Fraction(line.index(node))


def put_by_means(sheet, line, beside):
    """One after another, each behind all those whose means are no greater."""
    put = []
    for node in line:
        mean = mean_of(sheet, line, node, beside)
        ahead = [other for other in put if mean_of(sheet, line, other, beside) <= mean]
        put.insert(len(ahead), node)
    return put


def swept_once(sheet, order, down):
    lines = [list(line) for line in order]
    rows = range(1, len(lines)) if down else range(len(lines) - 2, -1, -1)
    for row in rows:
        lines[row] = put_by_means(sheet, lines[row], lines[row - 1] if down else lines[row + 1])
    return lines


def sweeps_of(sheet, order, turns):
    orders = [[list(line) for line in order]]
    for turn in range(turns):
        orders.append(swept_once(sheet, orders[-1], turn % 2 == 0))
    return orders


class Swept(unittest.TestCase):
    def check(self, sheet, order, turns):
        told = swept(sheet, order, turns)
        self.assertIs(type(told), tuple)
        best, counts = told
        orders = sweeps_of(sheet, order, turns)
        samples.check_numbers(self, counts)
        self.assertEqual(counts, [len(samples.pairs_of(sheet, one)) for one in orders])
        self.assertEqual(len(counts), turns + 1)
        self.assertIs(type(best), list)
        for line in best:
            samples.check_numbers(self, line)
        self.assertEqual(best, orders[counts.index(min(counts))])
        return best, counts

    def test_no_turn(self):
        sheet = samples.flat_sheet(2, 2, [(0, 3), (1, 2)])
        self.assertEqual(self.check(sheet, [[0, 1], [2, 3]], 0), ([[0, 1], [2, 3]], [1]))

    def test_one_turn(self):
        sheet = samples.flat_sheet(2, 2, [(0, 3), (1, 2)])
        self.assertEqual(self.check(sheet, [[0, 1], [2, 3]], 1), ([[0, 1], [3, 2]], [1, 0]))

    def test_twenty_turns(self):
        sheet = samples.flat_sheet(2, 2, [(0, 3), (1, 2)])
        self.assertEqual(self.check(sheet, [[0, 1], [2, 3]], 20), ([[0, 1], [3, 2]], [1] + [0] * 20))

    def test_down_goes_by_the_row_above_as_it_stands_by_then(self):
        sheet = Sheet(samples.net_of(6, [(0, 3), (1, 2), (2, 4), (3, 5)]), [], [0, 0, 1, 1, 2, 2])
        best, counts = self.check(sheet, [[0, 1], [2, 3], [4, 5]], 1)
        self.assertEqual((best, counts), ([[0, 1], [3, 2], [5, 4]], [1, 0]))

    def test_up_goes_by_the_row_below_as_it_stands_by_then(self):
        # Down, every node of rows 1 and 2 has one piece at place 0, so that only the sweep up brings the end.
        net = samples.net_of(5, [(0, 1), (0, 2), (1, 4), (2, 3)])
        sheet = Sheet(net, [], [0, 1, 1, 2, 2])
        for turns in (1, 2):
            self.check(sheet, [[0], [1, 2], [3, 4]], turns)
        sheet = Sheet(samples.net_of(6, [(0, 5), (2, 4), (0, 3), (1, 4), (1, 2)]), [], [0, 0, 1, 1, 2, 2])
        for turns in range(5):
            for order in samples.all_orders(sheet):
                self.check(sheet, order, turns)

    def test_the_first_row_stands_in_a_sweep_down_and_the_last_one_in_a_sweep_up(self):
        sheet = samples.flat_sheet(3, 3, [(0, 5), (1, 4), (2, 3), (0, 3)])
        for upper in itertools.permutations(range(3)):
            for lower in itertools.permutations(range(3, 6)):
                best, counts = self.check(sheet, [upper, lower], 1)
                self.assertEqual(best[0], list(upper))
                self.check(sheet, [upper, lower], 2)

    def test_like_means_as_they_stood(self):
        sheet = samples.flat_sheet(3, 4, [(1, 3), (0, 4), (2, 4), (1, 5), (0, 6), (1, 6), (2, 6)])
        for lower in itertools.permutations(range(3, 7)):
            self.assertEqual(sweeps_of(sheet, [[0, 1, 2], lower], 1)[1], [[0, 1, 2], list(lower)])
            self.check(sheet, [[0, 1, 2], lower], 1)

    def test_thirds_and_halves(self):
        # Means 4/3, 3/2, 1, 5/3 of rows that a division without rest would make alike.
        comes = {4: (0, 1, 3), 5: (1, 2), 6: (1,), 7: (0, 2, 3)}
        sheet = samples.flat_sheet(4, 4, [(a, b) for b in comes for a in comes[b]])
        for lower in itertools.permutations(range(4, 8)):
            self.assertEqual(sweeps_of(sheet, [[0, 1, 2, 3], lower], 1)[1][1], [6, 4, 5, 7])
            self.check(sheet, [[0, 1, 2, 3], lower], 1)

    def test_nodes_without_pieces_by_their_own_place(self):
        # Node 6 has no piece, and the others go to and fro about it.
        sheet = samples.flat_sheet(4, 4, [(3, 4), (0, 5), (2, 7)])
        for lower in itertools.permutations(range(4, 8)):
            for turns in (1, 2, 3):
                self.check(sheet, [[0, 1, 2, 3], lower], turns)
        self.assertEqual(self.check(sheet, [[0, 1, 2, 3], [4, 6, 7, 5]], 1)[0][1], [5, 6, 7, 4])
        self.assertEqual(self.check(sheet, [[0, 1, 2, 3], [6, 4, 7, 5]], 1)[0][1], [6, 5, 7, 4])

    def test_pieces_to_the_other_row_are_none_of_its_mean(self):
        # Node 2 has pieces below alone: down it keeps its place, up it goes by these.
        sheet = Sheet(samples.net_of(6, [(0, 3), (2, 5), (3, 4)]), [], [0, 0, 1, 1, 2, 2])
        for order in samples.all_orders(sheet):
            for turns in (1, 2, 3, 4):
                self.check(sheet, order, turns)

    def test_each_piece_counts(self):
        # Boxes 0 and 4 are joined by two arrows: means 1/3 of node 4, 1/2 of node 5.
        sheet = Sheet(samples.net_of(6, [(0, 4), (4, 0), (1, 4), (0, 5), (1, 5)]), [1], [0, 0, 0, 0, 1, 1])
        self.assertEqual(self.check(sheet, [[0, 1, 2, 3], [5, 4]], 1)[0][1], [4, 5])

    def test_rows_without_nodes(self):
        sheet = Sheet(samples.net_of(6, [(0, 3), (1, 2)]), [], [1, 1, 2, 2, 5, 5])
        for turns in range(4):
            self.check(sheet, [[], [0, 1], [2, 3], [], [], [5, 4]], turns)
        self.assertEqual(self.check(sheet, [[], [0, 1], [2, 3], [], [], [5, 4]], 2)[0],
                         [[], [0, 1], [3, 2], [], [], [5, 4]])

    def test_one_row(self):
        sheet = Sheet(samples.net_of(4, []), [], [0] * 4)
        self.assertEqual(self.check(sheet, [[2, 0, 3, 1]], 3), ([[2, 0, 3, 1]], [0] * 4))

    def test_the_first_with_fewest(self):
        # No sweep leaves fewer here, but some leave as many in another order.
        sheet = samples.flat_sheet(2, 3, [(0, 2), (1, 3), (0, 3), (1, 2)])
        best, counts = self.check(sheet, [[1, 0], [3, 4, 2]], 4)
        self.assertEqual((best, set(counts)), ([[1, 0], [3, 4, 2]], {1}))
        self.assertNotEqual(sweeps_of(sheet, [[1, 0], [3, 4, 2]], 1)[1], best)

    def test_a_sweep_that_adds_crossings_is_not_told(self):
        dice = samples.chance(201)
        worse = 0
        for sheet in samples.some_sheets(202, samples.some_nets(203, 20, 6, 12, 16)):
            start = swept(sheet, samples.some_order(dice, sheet), 20)[0]
            best, counts = self.check(sheet, start, 3)
            self.assertEqual(len(samples.pairs_of(sheet, best)), min(counts))
            worse += max(counts) > counts[0]
        self.assertTrue(worse)

    def test_many_sheets(self):
        dice = samples.chance(204)
        nets = samples.some_nets(205, 20, 1, 12, 18)
        for sheet in samples.some_sheets(206, nets):
            self.check(sheet, first_order(sheet), dice.randint(0, 6))
            self.check(sheet, samples.some_order(dice, sheet), dice.randint(0, 6))

    def test_twenty_turns_of_great_sheets(self):
        dice = samples.chance(207)
        for sheet in samples.some_sheets(208, samples.great_nets(209, 1)):
            self.check(sheet, samples.some_order(dice, sheet), 20)

    def test_a_long_sheet_in_good_time(self):
        sheet = samples.long_sheet()
        order = samples.some_order(samples.chance(210), sheet)
        self.assertEqual(len(samples.check_time(self, lambda: swept(sheet, order, 20), 6)[1]), 21)


class Refused(unittest.TestCase):
    def test_no_order(self):
        for turns in (0, 6, 20, -1, 21):
            samples.check_no_order(self, lambda sheet, order: swept(sheet, order, turns))

    def test_no_number(self):
        sheet = samples.sheet_for_orders()
        for order in samples.kinds_of(first_order(sheet)):
            for turns in (-1, 21, 22, -20, BIG, -BIG):
                self.assertRaises(NoNumber, swept, sheet, order, turns)

    def test_bounds(self):
        sheet = samples.sheet_for_orders()
        for turns in (0, 1, 19, 20):
            self.assertEqual(len(swept(sheet, first_order(sheet), turns)[1]), turns + 1)


class LeftAlone(unittest.TestCase):
    """Point 2."""

    def setUp(self):
        self.sheet, self.order, self.other = samples.two_orders()

    def test_kept_apart(self):
        for turns in (0, 1, 2, 5):
            samples.check_orders_apart(self, lambda order: swept(self.sheet, order, turns), self.order, self.other)
        self.assertEqual(first_order(self.sheet), [[0, 1, 2], [3, 4, 6, 7], [5]])

    def test_refused(self):
        wrong = [[0, 2, 1], [4, 3, 6, 6], [5]]
        samples.check_refused_leaves(self, NoOrder, lambda order: swept(self.sheet, order, 2), wrong)
        samples.check_refused_leaves(self, NoNumber, lambda order: swept(self.sheet, order, 21), self.order)


if __name__ == "__main__":
    unittest.main()
