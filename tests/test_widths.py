"""Point 12: fewest rows within a width; point 2 for them."""

import functools
import itertools
import unittest

from arrowtiers.errors import NoArrow, NoWidth, Ringed
from arrowtiers.rows import fewest_rows
from arrowtiers.widths import rows_within

import samples

FIVE = samples.net_of(4, [(0, 1), (1, 2), (2, 0), (2, 3), (3, 1)])
NO_WIDTHS = (0, -1, 13, 14, -12, 24, samples.BIG, -samples.BIG)


def fewest_by_all_deals(boxes, ends):
    """For each width how few rows do, of every deal of the boxes to rows."""
    fewest = {width: boxes + 1 for width in range(1, 13)}
    for rows in itertools.product(range(boxes), repeat=boxes):
        if len(set(rows)) == max(rows) + 1 and all(rows[a] < rows[b] for a, b in ends):
            widest = max(rows.count(row) for row in rows)
            for width in range(widest, 13):
                fewest[width] = min(fewest[width], max(rows) + 1)
    return fewest


def fewest_by_all_next_rows(boxes, ends, width):
    """How few rows do, by trying whatever may stand in each next row, full or not."""
    @functools.cache
    def fewest(done):
        if len(done) == boxes:
            return 0
        free = [box for box in range(boxes) if box not in done and all(a in done for a, b in ends if b == box)]
        sizes = range(1, min(width, len(free)) + 1)
        return 1 + min(fewest(done | set(row)) for size in sizes for row in itertools.combinations(free, size))
    return fewest(frozenset())


class Within(unittest.TestCase):
    def check(self, net, turned, width):
        """The number of rows, of rows that are as the point says but for how few they are."""
        ends = samples.goes(net, turned)
        for given in (list(turned), tuple(turned)):
            rows = samples.check_time(self, lambda: rows_within(net, given, width), 20)
            samples.check_down(self, rows, net.many(), ends)
            self.assertEqual(sorted(set(rows)), list(range(max(rows) + 1)))
            self.assertLessEqual(max(rows.count(row) for row in rows), width)
        return max(rows) + 1

    def test_one_box(self):
        for width in range(1, 13):
            self.assertEqual(self.check(samples.net_of(1, []), [], width), 1)

    def test_no_arrows(self):
        for boxes in range(1, 13):
            for width in range(1, 13):
                self.assertEqual(self.check(samples.net_of(boxes, []), [], width), (boxes + width - 1) // width)

    def test_twelve_in_a_line(self):
        net = samples.net_of(12, [(k, k + 1) for k in range(11)])
        for width in range(1, 13):
            self.assertEqual(self.check(net, [], width), 12)
            self.assertEqual(self.check(net, list(range(11)), width), 12)

    def test_the_long_way_goes_ahead(self):
        # Boxes 3, 4 and 5 in a line: three rows of width 2 do only if 3 is in the first one.
        net = samples.net_of(6, [(3, 4), (4, 5)])
        self.assertEqual(self.check(net, [], 2), 3)
        self.assertEqual(self.check(net, [1, 0], 2), 3)

    def test_not_by_the_longest_ways_alone(self):
        # Boxes 3, 4 and 5 have equally long ways below them; four rows do only with box 5 in the second one.
        net = samples.net_of(8, [(5, 0), (2, 5), (5, 7), (2, 4), (3, 0), (1, 4), (4, 7), (5, 6)])
        self.assertEqual(self.check(net, [], 2), 4)
        self.assertEqual(fewest_by_all_next_rows(8, net.arrows(), 2), 4)

    def test_all_deals_of_small_nets(self):
        dice = samples.chance(121)
        for net in samples.some_nets(122, 60, 1, 5, 9):
            turned = samples.ringless_turned(dice, net)
            fewest = fewest_by_all_deals(net.many(), samples.goes(net, turned))
            for width in range(1, 13):
                self.assertEqual(self.check(net, turned, width), fewest[width], (net.arrows(), turned, width))

    def test_all_deals_of_six_boxes(self):
        dice = samples.chance(123)
        for net in samples.some_nets(124, 8, 6, 6, 8):
            turned = samples.ringless_turned(dice, net)
            fewest = fewest_by_all_deals(6, samples.goes(net, turned))
            for width in range(1, 13):
                self.assertEqual(self.check(net, turned, width), fewest[width], (net.arrows(), turned, width))

    def test_all_next_rows_of_more_boxes(self):
        dice = samples.chance(125)
        for net in samples.some_nets(126, 40, 7, 10, 14):
            turned = samples.ringless_turned(dice, net)
            ends = samples.goes(net, turned)
            for width in range(1, 5):
                wanted = fewest_by_all_next_rows(net.many(), ends, width)
                self.assertEqual(self.check(net, turned, width), wanted, (net.arrows(), turned, width))

    def test_twelve_boxes_at_every_width_in_good_time(self):
        dice = samples.chance(127)
        for net in samples.great_nets(128, 4) + samples.some_nets(129, 4, 12, 12, 8):
            turned = samples.ringless_turned(dice, net)
            told = [self.check(net, turned, width) for width in range(1, 13)]
            self.assertEqual(told[0], 12)
            self.assertEqual(told, sorted(told, reverse=True))
            self.assertEqual(told[11], max(fewest_rows(net, turned)[0]) + 1)

    def test_twelve_boxes_below_one_and_above_one(self):
        for turned in ([], list(range(11))):
            net = samples.net_of(12, [(0, k) for k in range(1, 12)])
            for width in range(1, 13):
                self.assertEqual(self.check(net, turned, width), 1 + (11 + width - 1) // width)


class Refused(unittest.TestCase):
    def test_widths_that_are_none(self):
        for width in NO_WIDTHS:
            for net in (samples.net_of(1, []), samples.net_of(12, []), samples.net_of(2, [(0, 1)])):
                self.assertRaises(NoWidth, rows_within, net, [], width)
            self.assertRaises(NoWidth, rows_within, FIVE, [4, 2], width)

    def test_ringed_ahead_of_no_width(self):
        for width in (1, 2, 12) + NO_WIDTHS:
            for turned in ([], [3], [4, 3, 2, 1, 0]):
                with self.assertRaises(Ringed) as caught:
                    rows_within(FIVE, turned, width)
                samples.check_ring(self, caught.exception.ring, samples.goes(FIVE, turned))

    def test_no_arrow_ahead_of_all(self):
        for width in (1, 2, 12) + NO_WIDTHS:
            samples.check_no_turned(self, lambda turned: rows_within(FIVE, turned, width))


class LeftAlone(unittest.TestCase):
    """Point 2."""

    def setUp(self):
        self.before = (FIVE.names(), FIVE.arrows())

    def tearDown(self):
        self.assertEqual((FIVE.names(), FIVE.arrows()), self.before)

    def test_rows_within(self):
        for turned in ([1], [4, 2], [2, 4], [0, 1, 3]):
            for width in (1, 2, 12):
                samples.check_kept_apart(self, lambda given: rows_within(FIVE, given, width), turned)

    def test_the_same_list_altered(self):
        samples.check_asked_anew(self, lambda turned: rows_within(FIVE, turned, 2), [1], [4, 2])

    def test_refused(self):
        samples.check_refused_leaves(self, NoArrow, lambda turned: rows_within(FIVE, turned, 2), [4, 4])
        samples.check_refused_leaves(self, Ringed, lambda turned: rows_within(FIVE, turned, 2), [4, 3, 2, 1, 0])
        samples.check_refused_leaves(self, NoWidth, lambda turned: rows_within(FIVE, turned, 0), [4, 2])


if __name__ == "__main__":
    unittest.main()
