"""Point 7: turned arrows and the rings that are left; of point 9 the rings apart; point 2 for both."""

import itertools
import unittest

from arrowtiers.errors import NoArrow
from arrowtiers.rings import ring_left, rings_apart
from arrowtiers.turning import fewest_turned

import samples

FIVE = samples.net_of(4, [(0, 1), (1, 2), (2, 0), (2, 3), (3, 1)])


class RingLeft(unittest.TestCase):
    def check(self, net, turned):
        ends = samples.goes(net, turned)
        for given in (list(turned), tuple(turned)):
            ring = ring_left(net, given)
            self.assertEqual(ring is not None, samples.has_ring(net.many(), ends), (net.arrows(), turned))
            if ring is not None:
                samples.check_ring(self, ring, ends)
        return ring

    def test_no_arrows(self):
        for boxes in (1, 2, 12):
            self.assertIsNone(self.check(samples.net_of(boxes, []), []))

    def test_one_arrow(self):
        net = samples.net_of(2, [(0, 1)])
        self.assertIsNone(self.check(net, []))
        self.assertIsNone(self.check(net, [0]))

    def test_two_arrows_one_the_other_turned(self):
        for arrows in ([(0, 1), (1, 0)], [(1, 0), (0, 1)]):
            net = samples.net_of(2, arrows)
            self.assertEqual(self.check(net, []), [0, 1])
            self.assertIsNone(self.check(net, [0]))
            self.assertIsNone(self.check(net, [1]))
            self.assertEqual(self.check(net, [0, 1]), [0, 1])
            self.assertEqual(self.check(net, [1, 0]), [0, 1])

    def test_two_arrows_among_others(self):
        net = samples.net_of(5, [(0, 1), (4, 3), (1, 2), (3, 4), (0, 4)])
        self.assertEqual(self.check(net, []), [1, 3])
        self.assertEqual(self.check(net, [4, 0]), [1, 3])
        self.assertIsNone(self.check(net, [1]))

    def test_a_ring_turned_the_other_way(self):
        net = samples.net_of(3, [(2, 0), (0, 1), (1, 2)])
        self.assertEqual(self.check(net, []), [0, 1, 2])
        for turned in itertools.permutations(range(3)):
            self.assertEqual(self.check(net, turned), [0, 2, 1])
            self.assertIsNone(self.check(net, turned[:1]))
            self.assertIsNone(self.check(net, turned[:2]))

    def test_a_ring_that_a_turned_arrow_makes(self):
        net = samples.net_of(4, [(0, 1), (1, 2), (0, 2), (2, 3)])
        self.assertIsNone(self.check(net, []))
        self.assertEqual(self.check(net, [2]), [0, 1, 2])
        self.assertIsNone(self.check(net, [2, 0]))

    def test_two_rings_that_meet_in_a_box(self):
        # All four arrows one behind another leave box 1 twice, so they are no ring.
        net = samples.net_of(3, [(0, 1), (1, 2), (2, 1), (1, 0)])
        self.assertIn(self.check(net, []), ([0, 3], [1, 2]))
        self.assertEqual(self.check(net, [1]), [0, 3])
        self.assertEqual(self.check(net, [3]), [1, 2])

    def test_a_ring_with_ways_to_it_and_from_it(self):
        net = samples.net_of(7, [(0, 1), (1, 4), (4, 5), (5, 6), (2, 1), (4, 3), (3, 2)])
        self.assertEqual(self.check(net, []), [1, 5, 6, 4])
        self.assertEqual(self.check(net, [0, 2, 3]), [1, 5, 6, 4])
        self.assertIsNone(self.check(net, [6]))

    def test_a_ring_of_all_twelve_boxes(self):
        net = samples.net_of(12, [(k, (k + 5) % 12) for k in range(12)])
        self.assertEqual(len(self.check(net, [])), 12)
        self.assertEqual(len(self.check(net, list(range(12)))), 12)
        for arrow in range(12):
            self.assertIsNone(self.check(net, [arrow]))

    def test_every_net_of_three_boxes_and_all_turned_arrows(self):
        pairs = list(itertools.permutations(range(3), 2))
        for many in range(7):
            for arrows in itertools.combinations(pairs, many):
                net = samples.net_of(3, list(arrows))
                for some in range(many + 1):
                    for turned in itertools.combinations(range(many), some):
                        self.check(net, turned)

    def test_many_nets(self):
        dice = samples.chance(7)
        for net in samples.some_nets(71, 300, 2, 12) + samples.great_nets(72, 20):
            self.check(net, [])
            self.check(net, dice.sample(range(len(net.arrows())), len(net.arrows())))
            self.check(net, samples.some_turned(dice, net))

    def test_many_nets_without_a_ring(self):
        dice = samples.chance(8)
        for net in samples.some_nets(73, 100, 2, 12) + samples.great_nets(74, 20):
            turned = samples.ringless_turned(dice, net)
            self.assertIsNone(self.check(net, turned))
            for arrow in range(len(net.arrows())):
                self.check(net, [k for k in turned if k != arrow] + [arrow] * (arrow not in turned))


class NoTurned(unittest.TestCase):
    def test_what_is_none(self):
        samples.check_no_turned(self, lambda turned: ring_left(FIVE, turned))

    def test_of_a_net_without_arrows(self):
        net = samples.net_of(3, [])
        for arrow in (0, -1, 1):
            with self.assertRaises(NoArrow) as caught:
                ring_left(net, [arrow])
            self.assertEqual(caught.exception.arrow, arrow)

    def test_of_twenty_four_arrows(self):
        net = samples.great_nets(75, 1)[0]
        self.assertRaises(NoArrow, ring_left, net, [24])
        self.assertRaises(NoArrow, ring_left, net, list(range(25)))
        ring_left(net, list(range(24)))


class RingsApart(unittest.TestCase):
    def check(self, net):
        ends = net.arrows()
        rings = rings_apart(net)
        self.assertIs(type(rings), list)
        for ring in rings:
            samples.check_ring(self, ring, ends)
        firsts = [ring[0] for ring in rings]
        self.assertEqual(firsts, sorted(firsts))
        used = [arrow for ring in rings for arrow in ring]
        self.assertEqual(len(set(used)), len(used))
        others = [pair for k, pair in enumerate(ends) if k not in used]
        self.assertFalse(samples.has_ring(net.many(), others))
        return rings

    def test_none(self):
        self.assertEqual(self.check(samples.net_of(1, [])), [])
        self.assertEqual(self.check(samples.net_of(3, [(0, 1), (0, 2), (1, 2)])), [])

    def test_pairs(self):
        self.assertEqual(self.check(samples.net_of(2, [(1, 0), (0, 1)])), [[0, 1]])
        arrows = [(0, 1), (2, 3), (4, 5), (5, 4), (1, 0), (3, 2)]
        self.assertEqual(self.check(samples.net_of(6, arrows)), [[0, 4], [1, 5], [2, 3]])

    def test_rings_that_meet_in_a_box(self):
        self.assertEqual(self.check(samples.net_of(3, [(0, 1), (1, 2), (2, 1), (1, 0)])), [[0, 3], [1, 2]])

    def test_rings_with_an_arrow_in_common(self):
        self.assertIn(self.check(FIVE), ([[0, 1, 2]], [[1, 3, 4]]))

    def test_all_pairs_of_five_boxes(self):
        self.check(samples.net_of(5, list(itertools.permutations(range(5), 2))))

    def test_many_nets(self):
        for net in samples.some_nets(91, 400, 1, 12) + samples.some_nets(92, 100, 3, 6):
            self.check(net)

    def test_no_more_than_fewest_arrows_to_be_turned(self):
        for net in samples.some_nets(93, 80, 2, 7) + samples.great_nets(94, 5):
            self.assertLessEqual(len(self.check(net)), len(fewest_turned(net)[1]))


class LeftAlone(unittest.TestCase):
    """Point 2."""

    def setUp(self):
        self.before = (FIVE.names(), FIVE.arrows())

    def tearDown(self):
        self.assertEqual((FIVE.names(), FIVE.arrows()), self.before)

    def test_ring_left(self):
        for turned in ([], [1], [3, 0], [4, 3, 2, 1, 0]):
            samples.check_kept_apart(self, lambda given: ring_left(FIVE, given), turned)

    def test_the_same_list_altered(self):
        for given, other in itertools.permutations(([], [1], [0, 3], [4, 2, 1, 0, 3]), 2):
            samples.check_asked_anew(self, lambda turned: ring_left(FIVE, turned), given, other)

    def test_refused(self):
        for turned, arrow in samples.NO_TURNED:
            samples.check_refused_leaves(self, NoArrow, lambda given: ring_left(FIVE, given), turned)

    def test_rings_apart(self):
        for net in (FIVE, samples.net_of(3, [(0, 1), (1, 2), (2, 1), (1, 0)]), samples.net_of(1, [])):
            samples.check_kept_apart(self, lambda: rings_apart(net))


if __name__ == "__main__":
    unittest.main()
