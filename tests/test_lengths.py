"""Point 13: rows of the shortest arrows, and the flow that shows it; point 2 for them."""

import itertools
import unittest

from arrowtiers.errors import NoArrow, Ringed
from arrowtiers.lengths import shortest_rows

import samples

FIVE = samples.net_of(4, [(0, 1), (1, 2), (2, 0), (2, 3), (3, 1)])


def lengths_of(rows, ends):
    return sum(rows[b] - rows[a] for a, b in ends)


class Shortest(unittest.TestCase):
    def check(self, net, turned):
        """The lengths together; no rows have less, as the flow shows."""
        ends = samples.goes(net, turned)
        for given in (list(turned), tuple(turned)):
            told = shortest_rows(net, given)
            self.assertIs(type(told), tuple)
            rows, flow = told
            samples.check_down(self, rows, net.many(), ends)
            self.assertEqual(min(rows), 0)
            self.check_flow(flow, net.many(), ends)
            self.assertEqual(sum(flow), lengths_of(rows, ends))
        return lengths_of(rows, ends)

    def check_flow(self, flow, boxes, ends):
        samples.check_numbers(self, flow)
        self.assertEqual(len(flow), len(ends))
        self.assertTrue(all(number >= 0 for number in flow), flow)
        for box in range(boxes):
            wanted = sum(b == box for a, b in ends) - sum(a == box for a, b in ends)
            coming = sum(number for number, (a, b) in zip(flow, ends) if b == box)
            going = sum(number for number, (a, b) in zip(flow, ends) if a == box)
            self.assertEqual(coming - going, wanted, (box, flow, ends))

    def check_all_rows(self, net, turned, most_rows):
        ends = samples.goes(net, turned)
        shortest = self.check(net, turned)
        for rows in itertools.product(range(most_rows), repeat=net.many()):
            if all(rows[a] < rows[b] for a, b in ends):
                self.assertGreaterEqual(lengths_of(rows, ends), shortest)

    def test_no_arrows(self):
        for boxes in range(1, 13):
            self.assertEqual(self.check(samples.net_of(boxes, []), []), 0)

    def test_one_arrow(self):
        net = samples.net_of(2, [(0, 1)])
        self.assertEqual(self.check(net, []), 1)
        self.assertEqual(shortest_rows(net, []), ([0, 1], [1]))
        self.assertEqual(shortest_rows(net, [0]), ([1, 0], [1]))

    def test_an_arrow_both_ways(self):
        net = samples.net_of(2, [(0, 1), (1, 0)])
        for turned in ([0], [1]):
            self.assertEqual(self.check(net, turned), 2)

    def test_a_box_goes_down_to_its_only_arrow(self):
        # Box 4 could stand in row 0, but its arrow goes to row 3.
        net = samples.net_of(5, [(0, 1), (1, 2), (2, 3), (4, 3)])
        self.assertEqual(self.check(net, []), 4)
        self.assertEqual(shortest_rows(net, [])[0], [0, 1, 2, 3, 2])

    def test_several_boxes_go_down_together(self):
        # Boxes 4, 5 and 6 stand close to box 3, whichever of them begins.
        net = samples.net_of(7, [(0, 1), (1, 2), (2, 3), (4, 5), (5, 3), (6, 5)])
        self.assertEqual(self.check(net, []), 6)
        self.assertEqual(shortest_rows(net, [])[0], [0, 1, 2, 3, 1, 2, 1])

    def test_a_box_stays_between(self):
        # Two arrows come to box 1, one goes: it stands high, though it could stand low.
        net = samples.net_of(6, [(0, 1), (5, 1), (1, 4), (0, 2), (2, 3), (3, 4)])
        self.assertEqual(self.check(net, []), 7)

    def test_an_arrow_that_has_to_be_long(self):
        net = samples.net_of(12, [(k, k + 1) for k in range(11)] + [(0, 11), (2, 9)])
        self.assertEqual(self.check(net, []), 11 + 11 + 7)
        self.assertEqual(shortest_rows(net, [])[0], list(range(12)))

    def test_twelve_in_a_line(self):
        net = samples.net_of(12, [(k, k + 1) for k in range(11)])
        self.assertEqual(self.check(net, []), 11)
        self.assertEqual(self.check(net, list(range(11))), 11)
        self.assertEqual(self.check(net, [5]), 11)

    def test_several_parts(self):
        # A line of four, a ring of three with an arrow turned, boxes 7 and 8 joined, and three boxes alone.
        net = samples.net_of(12, [(3, 2), (2, 1), (1, 0), (4, 5), (5, 6), (6, 4), (8, 7)])
        self.assertEqual(self.check(net, [5]), 3 + 4 + 1)
        self.assertEqual(self.check(net, [6, 3]), 3 + 4 + 1)

    def test_several_parts_of_many_nets(self):
        dice = samples.chance(131)
        for one, other in zip(samples.some_nets(132, 60, 1, 6, 10), samples.some_nets(133, 60, 1, 6, 10)):
            shift = one.many()
            arrows = one.arrows() + [(a + shift, b + shift) for a, b in other.arrows()]
            net = samples.net_of(shift + other.many(), arrows)
            turned = samples.ringless_turned(dice, net)
            kept = [k for k in turned if k < len(one.arrows())]
            moved = [k - len(one.arrows()) for k in turned if k >= len(one.arrows())]
            self.assertEqual(self.check(net, turned), self.check(one, kept) + self.check(other, moved))

    def test_every_net_of_three_boxes(self):
        pairs = list(itertools.permutations(range(3), 2))
        for many in range(5):
            for arrows in itertools.combinations(pairs, many):
                if not samples.has_ring(3, arrows):
                    self.check_all_rows(samples.net_of(3, list(arrows)), [], 12)

    def test_all_rows_of_small_nets(self):
        dice = samples.chance(134)
        for net in samples.some_nets(135, 20, 1, 4, 10):
            self.check_all_rows(net, samples.ringless_turned(dice, net), 7)
        for net in samples.some_nets(136, 30, 5, 5, 12):
            self.check_all_rows(net, samples.ringless_turned(dice, net), 5)
        for net in samples.some_nets(137, 6, 6, 6, 12):
            self.check_all_rows(net, samples.ringless_turned(dice, net), 6)

    def test_many_nets(self):
        dice = samples.chance(138)
        for net in samples.some_nets(139, 300, 1, 12) + samples.great_nets(140, 40):
            turned = samples.ringless_turned(dice, net)
            shortest = samples.check_time(self, lambda: self.check(net, turned), 20)
            rows = samples.close_rows(net, turned)
            self.assertLessEqual(shortest, lengths_of(rows, samples.goes(net, turned)))

    def test_nets_of_few_arrows(self):
        # So that there are long ways, boxes to be moved, and parts that no arrow joins.
        dice = samples.chance(141)
        for net in samples.some_nets(142, 300, 8, 12, 13):
            self.check(net, samples.ringless_turned(dice, net))


class Refused(unittest.TestCase):
    def test_ringed(self):
        for turned in ([], [3], [4, 3, 2, 1, 0]):
            for given in (turned, tuple(turned)):
                with self.assertRaises(Ringed) as caught:
                    shortest_rows(FIVE, given)
                samples.check_ring(self, caught.exception.ring, samples.goes(FIVE, turned))

    def test_ringed_of_many_nets(self):
        dice = samples.chance(143)
        for net in samples.some_nets(144, 100, 2, 12):
            turned = samples.some_turned(dice, net)
            ends = samples.goes(net, turned)
            if samples.has_ring(net.many(), ends):
                with self.assertRaises(Ringed) as caught:
                    shortest_rows(net, turned)
                samples.check_ring(self, caught.exception.ring, ends)

    def test_no_arrow_ahead_of_ringed(self):
        samples.check_no_turned(self, lambda turned: shortest_rows(FIVE, turned))


class LeftAlone(unittest.TestCase):
    """Point 2."""

    def setUp(self):
        self.before = (FIVE.names(), FIVE.arrows())

    def tearDown(self):
        self.assertEqual((FIVE.names(), FIVE.arrows()), self.before)

    def test_shortest_rows(self):
        for turned in ([1], [4, 2], [2, 4], [0, 1, 3]):
            samples.check_kept_apart(self, lambda given: shortest_rows(FIVE, given), turned)

    def test_the_same_list_altered(self):
        samples.check_asked_anew(self, lambda turned: shortest_rows(FIVE, turned), [1], [4, 2])

    def test_refused(self):
        samples.check_refused_leaves(self, NoArrow, lambda turned: shortest_rows(FIVE, turned), [4, 4])
        samples.check_refused_leaves(self, Ringed, lambda turned: shortest_rows(FIVE, turned), [4, 3, 2, 1, 0])


if __name__ == "__main__":
    unittest.main()
