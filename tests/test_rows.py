"""Points 10 and 11: whether rows are down, and fewest rows; point 2 for both."""

import itertools
import unittest

from arrowtiers.errors import NoArrow, Ringed
from arrowtiers.rows import fewest_rows, is_down

import samples

FIVE = samples.net_of(4, [(0, 1), (1, 2), (2, 0), (2, 3), (3, 1)])
BIG = samples.BIG


class IsDown(unittest.TestCase):
    def check(self, net, turned, rows, wanted):
        for kind in (list, tuple):
            self.assertIs(is_down(net, kind(turned), kind(rows)), wanted, (net.arrows(), turned, rows))

    def test_one_box(self):
        net = samples.net_of(1, [])
        for row in range(12):
            self.check(net, [], [row], True)
        for row in (-1, 12, 13, -12, BIG, -BIG):
            self.check(net, [], [row], False)

    def test_too_short_and_too_long(self):
        self.check(samples.net_of(1, []), [], [], False)
        self.check(samples.net_of(1, []), [], [0, 0], False)
        net = samples.net_of(3, [(0, 1)])
        for rows in ([], [0], [0, 1], [0, 1, 2, 3], [0, 1, 2, -1], [0, 1, 2] * 9):
            self.check(net, [], rows, False)
        self.check(net, [], [0, 1, 2], True)

    def test_bounds(self):
        net = samples.net_of(3, [(0, 1)])
        for rows in ([0, 11, 11], [10, 11, 0], [0, 1, 11], [0, 1, 0], [3, 7, 5]):
            self.check(net, [], rows, True)
        for rows in ([0, 12, 0], [-1, 0, 0], [0, 1, 12], [0, 1, -1], [0, BIG, 0], [-BIG, 1, 0], [0, 1, BIG],
                     [11, 12, 0], [-2, -1, 0], [12, 13, 14]):
            self.check(net, [], rows, False)

    def test_arrows_level_and_up(self):
        net = samples.net_of(2, [(0, 1)])
        for rows in itertools.product(range(12), repeat=2):
            self.check(net, [], rows, rows[0] < rows[1])
            self.check(net, [0], rows, rows[1] < rows[0])

    def test_all_rows_of_small_nets(self):
        dice = samples.chance(101)
        for net in samples.some_nets(102, 40, 3, 3, 4):
            turned = samples.some_turned(dice, net)
            ends = samples.goes(net, turned)
            for rows in itertools.product((-1, 0, 1, 2, 11, 12), repeat=3):
                wanted = min(rows) >= 0 and max(rows) <= 11 and all(rows[a] < rows[b] for a, b in ends)
                self.check(net, turned, rows, wanted)

    def test_a_ring_has_none(self):
        for arrows, turned in (([(0, 1), (1, 0)], []), ([(0, 1), (1, 0)], [1, 0])):
            for rows in itertools.product(range(12), repeat=2):
                self.check(samples.net_of(2, arrows), turned, rows, False)
        net = samples.net_of(3, [(0, 1), (1, 2), (2, 0)])
        for rows in itertools.product(range(5), repeat=3):
            self.check(net, [], rows, False)
            self.check(net, [2, 0, 1], rows, False)

    def test_a_ring_and_no_rows(self):
        net = samples.net_of(3, [(0, 1), (1, 2), (2, 0)])
        for rows in ([], [0], [0, 1, 2, 3], [0, 1, 12], [-1, 0, 1]):
            self.check(net, [], rows, False)

    def test_twelve_boxes(self):
        net = samples.net_of(12, [(k, k + 1) for k in range(11)])
        self.check(net, [], list(range(12)), True)
        self.check(net, [], list(range(1, 13)), False)
        self.check(net, list(range(11)), list(range(12)), False)
        self.check(net, list(range(11)), list(range(11, -1, -1)), True)
        self.check(net, [3], list(range(12)), False)
        self.check(net, [], [0] * 12, False)
        self.check(samples.net_of(12, []), [], [0] * 12, True)

    def test_no_arrow_ahead_of_all(self):
        for rows in ([0, 1, 2, 3], [], [0], [-1, 0, 0, 12], [0, 0, 0, 0, 0], [BIG] * 4):
            samples.check_no_turned(self, lambda turned: is_down(FIVE, turned, rows))
            samples.check_no_turned(self, lambda turned: is_down(FIVE, turned, tuple(rows)))


class FewestRows(unittest.TestCase):
    def check(self, net, turned):
        ends = samples.goes(net, turned)
        for given in (list(turned), tuple(turned)):
            told = fewest_rows(net, given)
            self.assertIs(type(told), tuple)
            rows, way = told
            samples.check_down(self, rows, net.many(), ends)
            self.assertEqual(rows, [samples.most_arrows_to(box, ends) for box in range(net.many())])
            samples.check_numbers(self, way)
            self.assertEqual([rows[box] for box in way], list(range(max(rows) + 1)))
            for pair in zip(way, way[1:]):
                self.assertIn(pair, ends)
        return rows

    def test_no_arrows(self):
        for boxes in (1, 2, 12):
            self.assertEqual(self.check(samples.net_of(boxes, []), []), [0] * boxes)

    def test_examples(self):
        net = samples.net_of(5, [(3, 1), (1, 0), (3, 0), (0, 4)])
        self.assertEqual(self.check(net, []), [2, 1, 0, 0, 3])
        self.assertEqual(fewest_rows(net, [])[1], [3, 1, 0, 4])
        self.assertEqual(self.check(net, [3, 0]), [2, 0, 0, 1, 0])
        self.assertEqual(self.check(net, [3, 2, 1, 0]), [1, 2, 0, 3, 0])

    def test_twelve_in_a_line(self):
        net = samples.net_of(12, [(k, k + 1) for k in range(11)][::-1])
        self.assertEqual(self.check(net, []), list(range(12)))
        self.assertEqual(self.check(net, list(range(11))), list(range(11, -1, -1)))

    def test_an_arrow_both_ways(self):
        net = samples.net_of(2, [(0, 1), (1, 0)])
        self.assertEqual(self.check(net, [0]), [1, 0])
        self.assertEqual(self.check(net, [1]), [0, 1])

    def test_least_of_all_rows_of_small_nets(self):
        dice = samples.chance(111)
        for net in samples.some_nets(112, 30, 2, 5, 10):
            turned = samples.ringless_turned(dice, net)
            ends = samples.goes(net, turned)
            rows = self.check(net, turned)
            for other in itertools.product(range(net.many()), repeat=net.many()):
                if all(other[a] < other[b] for a, b in ends):
                    self.assertTrue(all(least <= row for least, row in zip(rows, other)))

    def test_many_nets(self):
        dice = samples.chance(113)
        for net in samples.some_nets(114, 150, 1, 12) + samples.great_nets(115, 20):
            self.check(net, samples.ringless_turned(dice, net))

    def test_ringed(self):
        dice = samples.chance(116)
        found = 0
        for net in samples.some_nets(117, 200, 2, 12):
            turned = samples.some_turned(dice, net)
            ends = samples.goes(net, turned)
            if not samples.has_ring(net.many(), ends):
                self.check(net, turned)
                continue
            found += 1
            with self.assertRaises(Ringed) as caught:
                fewest_rows(net, turned)
            samples.check_ring(self, caught.exception.ring, ends)
        self.assertGreater(found, 50)

    def test_rings_of_two_arrows(self):
        net = samples.net_of(2, [(0, 1), (1, 0)])
        for turned in ([], [0, 1], (1, 0)):
            with self.assertRaises(Ringed) as caught:
                fewest_rows(net, turned)
            self.assertEqual(caught.exception.ring, [0, 1])

    def test_no_arrow_ahead_of_ringed(self):
        samples.check_no_turned(self, lambda turned: fewest_rows(FIVE, turned))


class LeftAlone(unittest.TestCase):
    """Point 2."""

    def setUp(self):
        self.before = (FIVE.names(), FIVE.arrows())

    def tearDown(self):
        self.assertEqual((FIVE.names(), FIVE.arrows()), self.before)

    def test_is_down(self):
        for rows in ([0, 1, 2, 3], [2, 0, 1, 2], [], [0, 12, -1, 0, 4], [3, 0, 1, 2]):
            for turned in ([], [2], [4, 2]):
                samples.check_kept_apart(self, lambda *given: is_down(FIVE, *given), turned, rows)

    def test_fewest_rows(self):
        for turned in ([1], [4, 2], [2, 4], [0, 1, 3]):
            samples.check_kept_apart(self, lambda given: fewest_rows(FIVE, given), turned)

    def test_the_same_lists_altered(self):
        samples.check_asked_anew(self, lambda turned: fewest_rows(FIVE, turned), [1], [4, 2])
        samples.check_asked_anew(self, lambda turned: is_down(FIVE, turned, [0, 1, 2, 3]), [2, 4], [1])
        samples.check_asked_anew(self, lambda rows: is_down(FIVE, [2, 4], rows), [0, 1, 2, 3], [3, 2, 1])
        self.assertTrue(is_down(FIVE, [2, 4], [0, 1, 2, 3]))

    def test_refused(self):
        samples.check_refused_leaves(self, Ringed, lambda turned: fewest_rows(FIVE, turned), [3])
        samples.check_refused_leaves(self, NoArrow, lambda turned: fewest_rows(FIVE, turned), [3, 3])
        samples.check_refused_leaves(self, NoArrow, lambda *given: is_down(FIVE, *given), [3, 3], [0, 1, 2, 3])

    def test_a_told_ring_may_be_altered(self):
        for again in range(2):
            with self.assertRaises(Ringed) as caught:
                fewest_rows(FIVE, [3])
            self.assertEqual(caught.exception.ring, [0, 1, 2])
            samples.spoil(caught.exception.ring)


if __name__ == "__main__":
    unittest.main()
