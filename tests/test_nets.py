"""Points 4 and 5: what is a net, what it tells, and nets renumbered; point 2 for all of these."""

import copy
import itertools
import unittest

from arrowtiers.errors import NoNet, NoOrder
from arrowtiers.nets import Net, renumbered

TWELVE = list("abcdefghijkl")
# Every pair of unlike boxes of five, and five more with a sixth: 25 arrows in all.
PAIRS = list(itertools.permutations(range(5), 2)) + [(5, k) for k in range(5)]
BIG = 10 ** 59


class Thing:
    """Something of no kind that the document tells of."""


NO_NAMES = (
    "", "ninechars", "abcdefghi", "a" * 100, "A", "aB", "Ab", "a1", "1", "a b", " a", "a ", " ", "a\n", "\na", "\n",
    "a\tb", "a-b", "a_b", "`", "{", "@", "[", "~", ".", 0, 1, -1, BIG, True, False, None, [], ["a"], (), ("a",),
    {}, {"a": 1}, {"a"}, b"a", Thing(), Net, len,
)
NO_ARROWS = (
    [0, 1], [], (), (0,), (0, 1, 2), ((0, 1),), (0, 0), (2, 2), (-1, 0), (0, -1), (3, 0), (0, 3), (BIG, 0),
    (0, -BIG), (True, 0), (0, True), (False, 1), (1, False), (True, False), ("a", 0), (0, "b"), ("a", "b"), ("0", "1"),
    (None, 0), (0, None), ([], 0), (0, [1]), ((0,), 1), (0, (1,)), ({}, 0), (Thing(), 0), 0, 1, -1, BIG, True, False,
    None, "", "ab", "01", b"ab", {}, {0: 1, 1: 2}, {0, 1}, Thing(), Net,
)


def fault_of(names, arrows):
    try:
        Net(names, arrows)
    except NoNet as error:
        return error.fault
    return None


class NetsThatAreSome(unittest.TestCase):
    def check(self, names, arrows):
        for kind in (list, tuple):
            net = Net(kind(names), kind(arrows))
            self.assertEqual(net.names(), list(names))
            self.assertEqual(net.arrows(), list(arrows))
            self.assertEqual(net.many(), len(names))

    def test_one_box_without_arrows(self):
        self.check(["a"], [])

    def test_twelve_boxes_without_arrows(self):
        self.check(TWELVE, [])

    def test_twelve_boxes_and_an_arrow_to_the_last(self):
        self.check(TWELVE, [(0, 11), (11, 10)])

    def test_twenty_four_arrows(self):
        self.check(TWELVE, PAIRS[:24])
        self.check(TWELVE[:6], PAIRS[:24])

    def test_both_ways(self):
        self.check(["a", "b"], [(0, 1), (1, 0)])
        self.check(["a", "b"], [(1, 0), (0, 1)])

    def test_names_of_one_and_of_eight_letters(self):
        self.check(["z", "abcdefgh", "zzzzzzzz", "a"], [(3, 1)])

    def test_every_small_letter(self):
        self.check(list("abcdefghijklm")[1:], [])
        self.check(list("nopqrstuvwxyz")[1:], [])
        self.check(["am", "nz"], [])

    def test_names_of_which_one_begins_another(self):
        self.check(["ab", "a", "abc", "b"], [(0, 1)])

    def test_words_of_the_text_as_names(self):
        self.check(["box", "arrow", "row", "down"], [(1, 0)])


class FaultsAlone(unittest.TestCase):
    def test_no_names(self):
        self.assertEqual(fault_of([], []), ("names", 0))
        self.assertEqual(fault_of((), ()), ("names", 0))

    def test_too_many_names(self):
        self.assertEqual(fault_of(TWELVE + ["m"], []), ("names", 13))
        self.assertEqual(fault_of(tuple(TWELVE + ["m"]), []), ("names", 13))
        self.assertEqual(fault_of(TWELVE + ["m", "n", "o"], []), ("names", 15))

    def test_a_name_that_is_none(self):
        for thing in NO_NAMES:
            for at in (0, 2, 4):
                names = ["v", "w", "x", "y", "z"]
                names[at] = thing
                self.assertEqual(fault_of(names, []), ("name", at), thing)
                self.assertEqual(fault_of(tuple(names), ()), ("name", at), thing)

    def test_an_only_name_that_is_none(self):
        for thing in NO_NAMES:
            self.assertEqual(fault_of([thing], []), ("name", 0), thing)

    def test_a_name_twice(self):
        self.assertEqual(fault_of(["a", "a"], []), ("name", 1))
        self.assertEqual(fault_of(["a", "b", "a", "c"], []), ("name", 2))
        self.assertEqual(fault_of(["a", "b", "c", "b"], []), ("name", 3))
        self.assertEqual(fault_of(TWELVE[:11] + ["a"], []), ("name", 11))

    def test_too_many_arrows(self):
        self.assertEqual(fault_of(TWELVE, PAIRS), ("arrows", 25))
        self.assertEqual(fault_of(tuple(TWELVE), tuple(PAIRS)), ("arrows", 25))
        self.assertEqual(fault_of(TWELVE, PAIRS + [(6, 7), (7, 6)]), ("arrows", 27))

    def test_an_arrow_that_is_none(self):
        for thing in NO_ARROWS:
            for at in (0, 2, 4):
                arrows = [(0, 1), (1, 2), (2, 0), (1, 0), (0, 2)]
                arrows[at] = thing
                self.assertEqual(fault_of(["a", "b", "c"], arrows), ("arrow", at), thing)
                self.assertEqual(fault_of(("a", "b", "c"), tuple(arrows)), ("arrow", at), thing)

    def test_an_only_arrow_that_is_none(self):
        for thing in NO_ARROWS:
            self.assertEqual(fault_of(["a", "b", "c"], [thing]), ("arrow", 0), thing)

    def test_an_arrow_of_the_only_box(self):
        for thing in ((0, 0), (0, 1), (1, 0)):
            self.assertEqual(fault_of(["a"], [thing]), ("arrow", 0))

    def test_an_end_just_beyond_twelve_boxes(self):
        self.assertEqual(fault_of(TWELVE, [(0, 11), (0, 12)]), ("arrow", 1))
        self.assertEqual(fault_of(TWELVE, [(12, 0)]), ("arrow", 0))

    def test_an_arrow_twice(self):
        self.assertEqual(fault_of(["a", "b"], [(0, 1), (0, 1)]), ("arrow", 1))
        self.assertEqual(fault_of(["a", "b"], [(0, 1), (1, 0), (0, 1)]), ("arrow", 2))
        self.assertEqual(fault_of(["a", "b", "c"], [(0, 1), (1, 2), (1, 2), (2, 0)]), ("arrow", 2))
        self.assertEqual(fault_of(TWELVE, PAIRS[:23] + [PAIRS[0]]), ("arrow", 23))


class SeveralFaults(unittest.TestCase):
    def test_names_ahead_of_all(self):
        self.assertEqual(fault_of([], PAIRS), ("names", 0))
        self.assertEqual(fault_of([], [None]), ("names", 0))
        self.assertEqual(fault_of(TWELVE + ["A"], []), ("names", 13))
        self.assertEqual(fault_of([None] * 13, PAIRS), ("names", 13))
        self.assertEqual(fault_of(TWELVE + ["a"], [(0, 0)]), ("names", 13))

    def test_name_ahead_of_arrows(self):
        self.assertEqual(fault_of(TWELVE[:11] + ["L"], PAIRS), ("name", 11))
        self.assertEqual(fault_of(TWELVE[:11] + ["a"], PAIRS), ("name", 11))

    def test_name_ahead_of_arrow(self):
        self.assertEqual(fault_of(["a", "b", "a"], [(0, 0)]), ("name", 2))
        self.assertEqual(fault_of(["a", "b", 3], [None]), ("name", 2))

    def test_arrows_ahead_of_arrow(self):
        self.assertEqual(fault_of(TWELVE, [None] + PAIRS[1:]), ("arrows", 25))
        self.assertEqual(fault_of(TWELVE, [(0, 1)] * 25), ("arrows", 25))

    def test_the_least_name_of_either_fault(self):
        self.assertEqual(fault_of(["a", "a", "B"], []), ("name", 1))
        self.assertEqual(fault_of(["a", "B", "a"], []), ("name", 1))
        self.assertEqual(fault_of(["B", "B"], []), ("name", 0))
        self.assertEqual(fault_of(["a", [], []], []), ("name", 1))

    def test_the_least_arrow_of_either_fault(self):
        self.assertEqual(fault_of(["a", "b"], [(0, 1), (0, 1), (1, 1)]), ("arrow", 1))
        self.assertEqual(fault_of(["a", "b"], [(0, 1), (1, 1), (0, 1)]), ("arrow", 1))
        self.assertEqual(fault_of(["a", "b"], [[0, 1], [0, 1]]), ("arrow", 0))
        self.assertEqual(fault_of(["a", "b"], [(0, 1), ([], []), ([], [])]), ("arrow", 1))


class Told(unittest.TestCase):
    def test_going_and_coming_of_each_box(self):
        for kind in (list, tuple):
            net = Net(kind(["a", "b", "c", "d"]), kind([(2, 0), (0, 1), (0, 2), (2, 1), (1, 0)]))
            self.assertEqual([net.going(box) for box in range(4)], [[1, 2], [4], [0, 3], []])
            self.assertEqual([net.coming(box) for box in range(4)], [[0, 4], [1, 3], [2], []])

    def test_a_box_without_arrows(self):
        net = Net(["a"], [])
        self.assertEqual((net.going(0), net.coming(0)), ([], []))

    def test_the_last_of_twelve_boxes(self):
        net = Net(TWELVE, [(0, 11), (11, 3), (5, 11), (11, 0)])
        self.assertEqual((net.going(11), net.coming(11)), ([1, 3], [0, 2]))

    def test_each_arrow_goes_and_comes_once(self):
        net = Net(TWELVE, PAIRS[:24])
        for box in range(12):
            self.assertEqual(net.going(box), [k for k in range(24) if PAIRS[k][0] == box])
            self.assertEqual(net.coming(box), [k for k in range(24) if PAIRS[k][1] == box])

    def test_methods_stand_in_the_class_itself(self):
        for name in ("names", "arrows", "many", "going", "coming"):
            self.assertIn(name, vars(Net))

    def test_kinds(self):
        net = Net(("a", "b"), ((0, 1),))
        for told in (net.names(), net.arrows(), net.going(0), net.coming(0)):
            self.assertIs(type(told), list)
        self.assertIs(type(net.arrows()[0]), tuple)
        self.assertIs(type(net.many()), int)


class Renumbered(unittest.TestCase):
    NAMES = ["a", "b", "c", "d"]
    ARROWS = [(0, 1), (1, 2), (2, 0), (0, 2), (3, 1)]

    def test_an_example(self):
        net = renumbered(Net(self.NAMES, self.ARROWS), [2, 0, 3, 1])
        self.assertEqual(net.names(), ["c", "a", "d", "b"])
        self.assertEqual(net.arrows(), [(1, 3), (3, 0), (0, 1), (1, 0), (2, 3)])

    def test_a_net_comes_of_it(self):
        net = renumbered(Net(self.NAMES, self.ARROWS), [2, 0, 3, 1])
        self.assertIs(type(net), Net)
        self.assertEqual((net.many(), net.going(1), net.coming(1)), (4, [0, 3], [2]))

    def test_every_order_and_back(self):
        net = Net(self.NAMES, self.ARROWS)
        by_name = [(self.NAMES[a], self.NAMES[b]) for a, b in self.ARROWS]
        for order in itertools.permutations(range(4)):
            for given in (order, list(order)):
                other = renumbered(net, given)
                names = other.names()
                self.assertEqual(names, [self.NAMES[box] for box in order])
                self.assertEqual([(names[a], names[b]) for a, b in other.arrows()], by_name)
            back = renumbered(other, [order.index(box) for box in range(4)])
            self.assertEqual((back.names(), back.arrows()), (self.NAMES, self.ARROWS))

    def test_one_box(self):
        net = renumbered(Net(["a"], []), [0])
        self.assertEqual((net.names(), net.arrows()), (["a"], []))

    def test_twelve_boxes_turned_round(self):
        net = renumbered(Net(TWELVE, PAIRS[:24]), list(range(11, -1, -1)))
        self.assertEqual(net.names(), TWELVE[::-1])
        self.assertEqual(net.arrows(), [(11 - a, 11 - b) for a, b in PAIRS[:24]])

    def test_orders_that_are_none(self):
        net = Net(["a", "b", "c"], [(0, 1)])
        wrong = [
            [], [0], [0, 1], [0, 1, 2, 3], [0, 1, 2, 0], [0, 1, 2, None], [0, 0, 2], [0, 1, 1], [2, 2, 2],
            [-1, 0, 1], [0, 1, -1], [0, 1, -3], [0, 1, 3], [3, 1, 2], [1, 2, 3], [0, BIG, 2], [0, 1, -BIG],
            [0, True, 2], [False, 1, 2], [False, True, 2], [0, 1, "2"], ["a", "b", "c"], ["0", 1, 2], [None, 1, 2],
            [0, [], 2], [[0], 1, 2], [0, (1,), 2], [{}, 1, 2], [0, {1}, 2], [0, b"1", 2], [0, 1, Thing()], [0, 1, Net],
        ]
        for order in wrong:
            self.assertRaises(NoOrder, renumbered, net, order)
            self.assertRaises(NoOrder, renumbered, net, tuple(order))

    def test_orders_that_are_none_of_one_box(self):
        for order in ([], [1], [-1], [False], [None], ["0"], [0, 0], [[0]]):
            self.assertRaises(NoOrder, renumbered, Net(["a"], []), order)


class LeftAlone(unittest.TestCase):
    """Point 2."""

    def setUp(self):
        self.names = ["a", "b", "c"]
        self.arrows = [(0, 1), (2, 1), (1, 2)]
        self.net = Net(self.names, self.arrows)

    def told(self, net):
        box = range(net.many())
        return (net.names(), net.arrows(), net.many(), [net.going(k) for k in box], [net.coming(k) for k in box])

    def test_what_is_handed_in_stays(self):
        self.assertEqual(self.names, ["a", "b", "c"])
        self.assertEqual(self.arrows, [(0, 1), (2, 1), (1, 2)])

    def test_what_is_refused_stays(self):
        names, arrows = ["a", "b", "B", "a"], [(0, 1), None, [0, 1], (0, 1)]
        kept = copy.deepcopy((names, arrows))
        self.assertEqual(fault_of(names, arrows), ("name", 2))
        self.assertEqual(fault_of(names[:2], arrows), ("arrow", 1))
        self.assertEqual((names, arrows), kept)

    def test_lists_handed_in_may_be_altered(self):
        before = self.told(self.net)
        self.names[0] = "z"
        self.names.append("y")
        self.arrows[0] = (1, 0)
        self.arrows.clear()
        self.assertEqual(self.told(self.net), before)

    def test_lists_told_may_be_altered(self):
        before = self.told(self.net)
        for ask in (self.net.names, self.net.arrows, lambda: self.net.going(1), lambda: self.net.coming(1)):
            told = ask()
            told[0] = "x"
            told.append("x")
            self.assertNotEqual(ask(), told)
            self.assertEqual(self.told(self.net), before)
        self.assertEqual(self.names, ["a", "b", "c"])
        self.assertEqual(self.arrows, [(0, 1), (2, 1), (1, 2)])

    def test_the_same_is_answered_alike(self):
        self.assertEqual(self.told(self.net), self.told(self.net))
        self.assertEqual(self.told(Net(self.names, self.arrows)), self.told(self.net))

    def test_renumbering_leaves_net_and_order(self):
        before = self.told(self.net)
        order = [2, 0, 1]
        other = renumbered(self.net, order)
        after = self.told(other)
        self.assertEqual(order, [2, 0, 1])
        self.assertEqual(self.told(self.net), before)
        order[0] = 1
        other.names().clear()
        other.arrows().clear()
        self.assertEqual(self.told(other), after)
        self.assertEqual(self.told(renumbered(self.net, [2, 0, 1])), after)
        self.assertEqual(self.told(self.net), before)

    def test_refusing_leaves_the_order(self):
        order = [0, 0, True]
        self.assertRaises(NoOrder, renumbered, self.net, order)
        self.assertEqual(order, [0, 0, True])
        self.assertIs(order[2], True)


if __name__ == "__main__":
    unittest.main()
