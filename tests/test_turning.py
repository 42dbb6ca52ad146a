"""Point 8: arrows against an order, and as few as can be; of point 9 those near; point 2 for all of these."""

import itertools
import unittest

from arrowtiers.errors import NoOrder
from arrowtiers.turning import against, fewest_turned, near_turned

import samples


def goes_back(arrows, order):
    """The arrows from a box to one further to the front, by a look of its own."""
    return [k for k, (a, b) in enumerate(arrows) if b in order[:order.index(a)]]


class Against(unittest.TestCase):
    def test_every_order_of_small_nets(self):
        for net in samples.some_nets(81, 40, 1, 5, 20):
            arrows = net.arrows()
            for order in itertools.permutations(range(net.many())):
                wanted = goes_back(arrows, order)
                for given in (order, list(order)):
                    told = against(net, given)
                    samples.check_numbers(self, told)
                    self.assertEqual(told, wanted)
                self.assertEqual(told, sorted(told))
                self.assertFalse(samples.has_ring(net.many(), samples.goes(net, told)))

    def test_twelve_boxes(self):
        dice = samples.chance(82)
        for net in samples.great_nets(83, 20):
            order = dice.sample(range(12), 12)
            self.assertEqual(against(net, order), goes_back(net.arrows(), order))

    def test_an_example(self):
        net = samples.net_of(3, [(2, 0), (0, 1), (1, 2), (1, 0)])
        self.assertEqual(against(net, [0, 1, 2]), [0, 3])
        self.assertEqual(against(net, [2, 1, 0]), [1, 2])
        self.assertEqual(against(net, [2, 0, 1]), [2, 3])

    def test_one_box(self):
        self.assertEqual(against(samples.net_of(1, []), [0]), [])

    def test_orders_that_are_none(self):
        net = samples.net_of(3, [(0, 1), (1, 2), (2, 0)])
        wrong = [
            [], [0], [2, 1], [0, 1, 2, 3], [0, 1, 2, 0], [0, 1, 2, None], [0, 0, 2], [1, 1, 1], [0, 1, 1],
            [-1, 0, 1], [0, 1, -1], [2, 1, -3], [0, 1, 3], [1, 2, 3], [samples.BIG, 0, 1], [0, 1, -samples.BIG],
            [0, True, 2], [False, 1, 2], [True, False, 2], [0, 1, "2"], ["a", "b", "c"], [None, 1, 2], [0, [], 2],
            [[0], [1], [2]], [0, (1,), 2], [{}, 1, 2], [0, {1}, 2], [0, b"1", 2], [0, 1, object()], [0, 1, len],
        ]
        for order in wrong:
            self.assertRaises(NoOrder, against, net, order)
            self.assertRaises(NoOrder, against, net, tuple(order))

    def test_orders_that_are_none_of_one_box(self):
        for order in ([], [1], [-1], [False], [None], [0, 0], ["0"]):
            self.assertRaises(NoOrder, against, samples.net_of(1, []), order)


class Fewest(unittest.TestCase):
    def check(self, net):
        told = fewest_turned(net)
        self.assertIs(type(told), tuple)
        order, turned = told
        samples.check_order(self, order, net.many())
        samples.check_numbers(self, turned)
        self.assertEqual(turned, goes_back(net.arrows(), order))
        self.assertFalse(samples.has_ring(net.many(), samples.goes(net, turned)))
        for arrow in turned:
            back = [k for k in turned if k != arrow]
            self.assertTrue(samples.has_ring(net.many(), samples.goes(net, back)))
        return len(turned)

    def check_all_orders(self, net):
        arrows = net.arrows()
        many = self.check(net)
        for order in itertools.permutations(range(net.many())):
            place = [order.index(box) for box in range(net.many())]
            self.assertGreaterEqual(sum(place[b] < place[a] for a, b in arrows), many)

    def test_no_ring(self):
        self.assertEqual(self.check(samples.net_of(1, [])), 0)
        self.assertEqual(self.check(samples.net_of(12, [])), 0)
        self.assertEqual(self.check(samples.net_of(4, [(3, 0), (0, 2), (2, 1), (3, 1)])), 0)
        self.assertEqual(self.check(samples.net_of(12, [(k + 1, k) for k in range(11)])), 0)

    def test_rings_of_two(self):
        self.assertEqual(self.check(samples.net_of(2, [(0, 1), (1, 0)])), 1)
        pairs = [(2 * k, 2 * k + 1) for k in range(6)]
        self.assertEqual(self.check(samples.net_of(12, pairs + [(b, a) for a, b in pairs])), 6)

    def test_all_pairs(self):
        for boxes in (2, 3, 4, 5):
            net = samples.net_of(boxes, list(itertools.permutations(range(boxes), 2)))
            self.assertEqual(self.check(net), boxes * (boxes - 1) // 2)

    def test_one_great_ring(self):
        self.assertEqual(self.check(samples.net_of(12, [(k, (k + 7) % 12) for k in range(12)])), 1)

    def test_one_arrow_in_all_rings(self):
        # Four ways from 1 to 0, and one arrow back.
        arrows = [(1, k) for k in range(2, 6)] + [(k, 0) for k in range(2, 6)] + [(0, 1)]
        net = samples.net_of(6, arrows)
        self.assertEqual(self.check(net), 1)
        self.assertEqual(fewest_turned(net)[1], [8])

    def test_every_order_of_small_nets(self):
        for net in samples.some_nets(84, 60, 1, 5, 20):
            self.check_all_orders(net)

    def test_every_order_of_six_boxes(self):
        for net in samples.some_nets(85, 15, 6, 6):
            self.check_all_orders(net)

    def test_every_order_of_seven_boxes(self):
        for net in samples.some_nets(86, 12, 7, 7) + [samples.some_net(samples.chance(87), 7, 24)]:
            self.check_all_orders(net)

    def test_great_nets_in_good_time(self):
        for net in samples.great_nets(88, 10):
            samples.check_time(self, lambda: self.check(net), 20)


class Near(unittest.TestCase):
    def check(self, net):
        told = near_turned(net)
        self.assertIs(type(told), tuple)
        order, turned = told
        samples.check_order(self, order, net.many())
        samples.check_numbers(self, turned)
        self.assertEqual(turned, goes_back(net.arrows(), order))
        self.assertLessEqual(2 * len(turned), len(net.arrows()))
        return turned

    def test_no_arrows(self):
        for boxes in (1, 2, 12):
            self.assertEqual(self.check(samples.net_of(boxes, [])), [])

    def test_one_arrow_is_never_turned(self):
        for arrow in itertools.permutations(range(4), 2):
            self.assertEqual(self.check(samples.net_of(4, [arrow])), [])

    def test_odd_numbers_of_arrows(self):
        for arrows in itertools.permutations(itertools.permutations(range(3), 2), 3):
            self.assertLessEqual(len(self.check(samples.net_of(3, list(arrows)))), 1)
        for arrows in itertools.combinations(itertools.permutations(range(3), 2), 5):
            self.assertLessEqual(len(self.check(samples.net_of(3, list(arrows)))), 2)

    def test_two_arrows(self):
        for arrows in itertools.permutations(itertools.permutations(range(3), 2), 2):
            self.assertLessEqual(len(self.check(samples.net_of(3, list(arrows)))), 1)

    def test_many_nets(self):
        for net in samples.some_nets(95, 300, 1, 12) + samples.great_nets(96, 30):
            self.check(net)

    def test_all_arrows_one_way(self):
        pairs = list(itertools.combinations(range(7), 2))
        self.check(samples.net_of(7, pairs))
        self.check(samples.net_of(7, [(b, a) for a, b in pairs]))


class LeftAlone(unittest.TestCase):
    """Point 2."""

    def setUp(self):
        self.net = samples.net_of(4, [(0, 1), (1, 2), (2, 0), (2, 3), (3, 1)])
        self.before = (self.net.names(), self.net.arrows())

    def tearDown(self):
        self.assertEqual((self.net.names(), self.net.arrows()), self.before)

    def test_against(self):
        for order in itertools.permutations(range(4)):
            samples.check_kept_apart(self, lambda given: against(self.net, given), list(order))

    def test_the_same_list_altered(self):
        samples.check_asked_anew(self, lambda order: against(self.net, order), [0, 1, 2, 3], [3, 2, 1, 0])

    def test_refused(self):
        samples.check_refused_leaves(self, NoOrder, lambda order: against(self.net, order), [0, 0, True, 9])

    def test_fewest_and_near(self):
        for net in [self.net] + samples.some_nets(97, 10, 1, 6):
            samples.check_kept_apart(self, lambda: fewest_turned(net))
            samples.check_kept_apart(self, lambda: near_turned(net))


if __name__ == "__main__":
    unittest.main()
