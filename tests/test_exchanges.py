"""Point 19: neighbours exchanged until no exchange leaves fewer crossings; point 2 for it."""

import itertools
import unittest

from arrowtiers.errors import NoOrder
from arrowtiers.exchanges import exchanged
from arrowtiers.sheets import Sheet, first_order

import samples


def with_exchange(order, row, place):
    lines = [list(line) for line in order]
    lines[row][place], lines[row][place + 1] = lines[row][place + 1], lines[row][place]
    return lines


def crossed(sheet, order):
    return len(samples.pairs_of(sheet, order))


class Exchanged(unittest.TestCase):
    def check(self, sheet, order):
        told = exchanged(sheet, order)
        self.assertIs(type(told), tuple)
        last, deeds = told
        self.assertIs(type(deeds), list)
        now = [list(line) for line in order]
        before = crossed(sheet, now)
        for deed in deeds:
            self.assertIs(type(deed), tuple)
            row, place = deed
            samples.check_numbers(self, [row, place])
            self.assertIn(row, range(sheet.many_rows()))
            self.assertIn(place, range(len(now[row]) - 1))
            now = with_exchange(now, row, place)
            after = crossed(sheet, now)
            self.assertLess(after, before)
            before = after
        self.assertEqual(last, now)
        self.assertIs(type(last), list)
        for line in last:
            samples.check_numbers(self, line)
        return last, deeds

    def check_settled(self, sheet, order):
        for row, line in enumerate(order):
            for place in range(len(line) - 1):
                self.assertGreaterEqual(crossed(sheet, with_exchange(order, row, place)), crossed(sheet, order))

    def check_whole(self, sheet, order):
        last, deeds = self.check(sheet, order)
        self.check_settled(sheet, last)
        self.assertEqual(exchanged(sheet, last), (last, []))
        return last, deeds

    def test_two_arrows(self):
        sheet = samples.flat_sheet(2, 2, [(0, 3), (1, 2)])
        last, deeds = self.check_whole(sheet, [[0, 1], [2, 3]])
        self.assertEqual(len(deeds), 1)
        self.assertIn(deeds[0], [(0, 0), (1, 0)])
        self.assertEqual(self.check_whole(sheet, [[1, 0], [2, 3]]), ([[1, 0], [2, 3]], []))

    def test_none_leaves_fewer(self):
        for order in ([[0, 1, 2], [3, 4, 5]], [[2, 0, 1], [4, 3, 5]]):
            sheet = samples.flat_sheet(3, 3, [(a, b) for a in range(3) for b in range(3, 6)])
            self.assertEqual(self.check_whole(sheet, order), (order, []))

    def test_like_counts_are_left_alone(self):
        # With either row exchanged as many cross as before.
        sheet = samples.flat_sheet(2, 2, [(0, 2), (0, 3), (1, 2), (1, 3)])
        for upper, lower in itertools.product(([0, 1], [1, 0]), ([2, 3], [3, 2])):
            self.assertEqual(self.check_whole(sheet, [upper, lower]), ([upper, lower], []))

    def test_no_arrow_one_row_no_node(self):
        for sheet in (Sheet(samples.net_of(1, []), [], [0]), Sheet(samples.net_of(12, []), [], [0] * 12),
                      Sheet(samples.net_of(3, []), [], [2, 5, 5]), samples.flat_sheet(1, 1, [(0, 1)])):
            order = [line[::-1] for line in first_order(sheet)]
            self.assertEqual(self.check_whole(sheet, order), (order, []))

    def test_a_row_with_pieces_above_and_below(self):
        # Exchanged by the row above node 2 and 3 would win one, by the row below lose two.
        net = samples.net_of(8, [(0, 3), (1, 2), (2, 4), (2, 5), (3, 6), (3, 7)])
        sheet = Sheet(net, [], [0, 0, 1, 1, 2, 2, 2, 2])
        order = [[0, 1], [2, 3], [4, 5, 6, 7]]
        last, deeds = self.check_whole(sheet, order)
        self.assertEqual((last, deeds), ([[1, 0], [2, 3], [4, 5, 6, 7]], [(0, 0)]))

    def test_pieces_above_or_below_alone(self):
        sheet = Sheet(samples.net_of(5, [(0, 3), (1, 2), (2, 4)]), [], [0, 0, 1, 1, 2])
        self.check_whole(sheet, [[0, 1], [2, 3], [4]])
        sheet = Sheet(samples.net_of(5, [(0, 1), (1, 4), (2, 3)]), [], [0, 1, 1, 2, 2])
        self.check_whole(sheet, [[0], [1, 2], [3, 4]])

    def test_the_last_two_of_a_row(self):
        sheet = samples.flat_sheet(3, 3, [(0, 3), (1, 5), (2, 4), (0, 4)])
        self.assertEqual(crossed(sheet, self.check_whole(sheet, [[0, 1, 2], [3, 4, 5]])[0]), 0)

    def test_the_same_two_boxes_joined_twice(self):
        sheet = Sheet(samples.net_of(4, [(0, 3), (3, 0), (1, 2)]), [1], [0, 0, 1, 1])
        last, deeds = self.check_whole(sheet, [[0, 1], [2, 3]])
        self.assertEqual((len(deeds), crossed(sheet, last)), (1, 0))

    def test_many_exchanges(self):
        sheet = samples.flat_sheet(6, 6, [(k, 11 - k) for k in range(6)])
        last, deeds = self.check_whole(sheet, first_order(sheet))
        self.assertEqual((len(deeds), crossed(sheet, last)), (15, 0))

    def test_every_order_of_small_sheets(self):
        for sheet in samples.some_sheets(191, samples.some_nets(192, 10, 3, 4, 5)):
            for order in itertools.islice(samples.all_orders(sheet), 120):
                self.check_whole(sheet, order)

    def test_many_sheets(self):
        dice = samples.chance(193)
        nets = samples.some_nets(194, 15, 1, 10, 14)
        for sheet in samples.some_sheets(195, nets):
            self.check_whole(sheet, first_order(sheet))
            self.check_whole(sheet, samples.some_order(dice, sheet))

    def test_a_long_sheet_in_good_time(self):
        sheet = samples.long_sheet()
        order = samples.some_order(samples.chance(196), sheet)
        last, deeds = samples.check_time(self, lambda: exchanged(sheet, order), 4)
        for row, place in deeds:
            order = with_exchange(order, row, place)
        self.assertEqual(last, order)


class Refused(unittest.TestCase):
    def test_no_order(self):
        samples.check_no_order(self, exchanged)

    def test_no_order_of_a_sheet_with_empty_rows(self):
        sheet = Sheet(samples.net_of(2, [(0, 1)]), [], [1, 2])
        self.assertEqual(exchanged(sheet, [[], [0], [1]]), ([[], [0], [1]], []))
        for order in ([[0], [1]], [[0], [1], []], [[], [0], [1], []], [[0], [0], [1]]):
            self.assertRaises(NoOrder, exchanged, sheet, order)


class LeftAlone(unittest.TestCase):
    """Point 2."""

    def setUp(self):
        self.sheet, self.order, self.other = samples.two_orders()

    def test_kept_apart(self):
        self.assertTrue(exchanged(self.sheet, self.order)[1])
        samples.check_orders_apart(self, lambda order: exchanged(self.sheet, order), self.order, self.other)
        self.assertEqual(first_order(self.sheet), [[0, 1, 2], [3, 4, 6, 7], [5]])

    def test_nothing_to_exchange_is_told_as_a_list_of_its_own(self):
        order = [[0, 1], [2, 3]]
        sheet = samples.flat_sheet(2, 2, [(0, 2), (1, 3)])
        samples.check_kept_apart(self, lambda order: exchanged(sheet, order), order)
        told = exchanged(sheet, ((0, 1), (2, 3)))
        self.assertEqual(told, ([[0, 1], [2, 3]], []))

    def test_refused(self):
        wrong = [[0, 2, 1], [4, 3, 6, 6], [5]]
        samples.check_refused_leaves(self, NoOrder, lambda order: exchanged(self.sheet, order), wrong)


if __name__ == "__main__":
    unittest.main()
