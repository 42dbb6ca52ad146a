"""Points 21 to 23: places that keep an order and a gap, the least ones, and arrows that run straight; point 2."""

import itertools
import unittest

from arrowtiers.errors import NoArrow, NoNumber, NoOrder, Twisted
from arrowtiers.nets import Net
from arrowtiers.places import is_kept, least_places, most_straight
from arrowtiers.sheets import Sheet, first_order

import samples

BIG = samples.BIG
NO_GAPS = (0, -1, 101, 102, -100, BIG, -BIG)


def with_node(sheet, node, straight):
    """The nodes that have one place with this one."""
    arrow = sheet.arrow_of(node)
    if arrow is None or arrow not in straight:
        return [node]
    return sheet.way(arrow)[1:-1]


def can_be(sheet, order, straight):
    """Whether there are places at all: nodes with nobody left of them, and none of those with them, go one by one."""
    left = [list(line) for line in order]
    while any(left):
        heads = [line[0] for line in left if line]
        free = [node for node in heads if all(other in heads for other in with_node(sheet, node, straight))]
        if not free:
            return False
        gone = with_node(sheet, free[0], straight)
        left = [[node for node in line if node not in gone] for line in left]
    return True


def named_sheets(seed, nets):
    dice = samples.chance(seed)
    return samples.some_sheets(seed + 1, [samples.with_names(dice, net) for net in nets])


def some_straight(dice, sheet):
    arrows = range(len(sheet.net().arrows()))
    return dice.sample(arrows, dice.randint(0, len(arrows)))


def twist():
    """Two arrows from row 0 to row 3 whose bends stand one way in row 1 and the other way in row 2."""
    sheet = Sheet(samples.net_of(4, [(0, 2), (1, 3)]), [], [0, 0, 3, 3])
    return sheet, [[0, 1], [4, 6], [7, 5], [2, 3]]


class IsKept(unittest.TestCase):
    def check(self, sheet, order, gap, places, wanted):
        for given in samples.kinds_of(order):
            for these in (list(places), tuple(places)):
                told = is_kept(sheet, given, gap, these)
                self.assertIs(told, wanted, (order, gap, places))

    def test_one_box(self):
        for name in ("a", "abcdefgh"):
            sheet = Sheet(Net([name], []), [], [0])
            for gap in (1, 7, 100):
                for place in (0, 1, 99, BIG):
                    self.check(sheet, [[0]], gap, [place], True)
                for place in (-1, -99, -BIG):
                    self.check(sheet, [[0]], gap, [place], False)

    def test_two_boxes_in_a_row(self):
        for name, gap in itertools.product(("a", "ab", "abcdefgh"), (1, 2, 99, 100)):
            sheet = Sheet(Net([name, "c"], []), [], [0, 0])
            least = len(name) + gap
            for start in (0, 1, 50, BIG):
                self.check(sheet, [[0, 1]], gap, [start, start + least], True)
                self.check(sheet, [[0, 1]], gap, [start, start + least + 1], True)
                self.check(sheet, [[0, 1]], gap, [start, start + least - 1], False)
                self.check(sheet, [[0, 1]], gap, [start, start], False)
                self.check(sheet, [[0, 1]], gap, [start + least, start], False)
            self.check(sheet, [[0, 1]], gap, [-1, least], False)
            # The width is that of the node ahead, not of the one behind.
            self.check(sheet, [[1, 0]], gap, [1 + gap, 0], True)
            self.check(sheet, [[1, 0]], gap, [gap, 0], False)

    def test_bends_are_one_wide(self):
        sheet = Sheet(Net(["abcd", "efgh", "ij"], [(0, 1)]), [], [0, 2, 1])
        for order, gap in itertools.product(([[0], [3, 2], [1]], [[0], [2, 3], [1]]), (1, 5, 100)):
            width = 1 if order[1][0] == 3 else 2
            for more, wanted in ((-1, False), (0, True), (1, True)):
                places = [0, 0, 0, 0]
                places[order[1][1]] = width + gap + more
                self.check(sheet, order, gap, places, wanted)

    def test_each_pair_of_neighbours_counts(self):
        sheet = Sheet(Net(["ab", "c", "def", "g"], []), [], [0, 0, 0, 1])
        order = [[2, 0, 1], [3]]
        self.check(sheet, order, 4, [7, 13, 0, 0], True)
        for node, change in ((0, -1), (1, -1), (2, 1), (0, 1)):
            places = [7, 13, 0, 0]
            places[node] += change
            self.check(sheet, order, 4, places, False)
        for node, change in ((1, 1), (3, 1), (3, 99)):
            places = [7, 13, 0, 0]
            places[node] += change
            self.check(sheet, order, 4, places, True)

    def test_rows_do_not_meet(self):
        sheet = Sheet(samples.net_of(3, [(0, 1), (1, 2)]), [], [0, 1, 2])
        for places in itertools.product((0, 1, 5), repeat=3):
            self.check(sheet, [[0], [1], [2]], 3, places, True)

    def test_not_straight_ones_keep_too(self):
        sheet, order = twist()
        self.check(sheet, order, 1, [0, 2, 0, 2, 0, 2, 2, 0], True)

    def test_lists_too_short_or_too_long(self):
        sheet = Sheet(samples.net_of(3, [(0, 2)]), [], [0, 1, 2])
        good = [0, 0, 0, 2]
        order = [[0], [1, 3], [2]]
        self.check(sheet, order, 1, good, True)
        for places in ([], [0], good[:-1], good + [0], good + [9], good * 2, good[1:]):
            self.check(sheet, order, 1, places, False)

    def test_numbers_below_0(self):
        sheet = Sheet(samples.net_of(3, [(0, 2)]), [], [0, 1, 2])
        for node in range(4):
            for place in (-1, -2, -BIG):
                places = [0, 0, 0, 2]
                places[node] = place
                self.check(sheet, [[0], [1, 3], [2]], 1, places, False)

    def test_great_numbers(self):
        sheet = Sheet(samples.net_of(2, []), [], [0, 0])
        most = 10 ** 60 - 1
        self.check(sheet, [[0, 1]], 1, [most - 2, most], True)
        self.check(sheet, [[0, 1]], 1, [most - 1, most], False)
        self.check(sheet, [[0, 1]], 100, [most - 101, most], True)
        self.check(sheet, [[0, 1]], 100, [0, most], True)
        self.check(sheet, [[0, 1]], 100, [most, 0], False)

    def test_rows_without_nodes(self):
        sheet = Sheet(samples.net_of(2, []), [], [3, 3])
        self.check(sheet, [[], [], [], [1, 0]], 2, [3, 0], True)
        self.check(sheet, [[], [], [], [1, 0]], 2, [0, 3], False)

    def test_many_sheets(self):
        dice = samples.chance(211)
        for sheet in named_sheets(212, samples.some_nets(213, 25, 1, 12, 12)):
            order = samples.some_order(dice, sheet)
            gap = dice.choice((1, 2, 10, 100))
            for count in range(4):
                places = least_places(sheet, order, gap, [])
                node = dice.randrange(len(places))
                places[node] = max(0, places[node] + dice.randint(-1, 3))
                self.check(sheet, order, gap, places, samples.keeps(sheet, order, gap, places))


class LeastPlaces(unittest.TestCase):
    def check(self, sheet, order, gap, straight):
        places = least_places(sheet, order, gap, straight)
        samples.check_numbers(self, places)
        self.assertTrue(samples.keeps(sheet, order, gap, places))
        self.assertTrue(is_kept(sheet, order, gap, places))
        self.assertTrue(all(samples.runs_straight(sheet, places, arrow) for arrow in straight))
        ahead = {right: left for line in order for left, right in zip(line, line[1:])}
        near = [node for node in ahead
                if places[node] == places[ahead[node]] + samples.width_of(sheet, ahead[node]) + gap]
        for node, place in enumerate(places):
            self.assertTrue(place == 0 or any(other in near for other in with_node(sheet, node, straight)), node)
        return places

    def check_twisted(self, sheet, order, gap, straight):
        for given in samples.kinds_of(order):
            self.assertRaises(Twisted, least_places, sheet, given, gap, straight)
            self.assertRaises(Twisted, least_places, sheet, given, gap, tuple(straight))

    def check_either(self, sheet, order, gap, straight):
        if can_be(sheet, order, straight):
            self.check(sheet, order, gap, straight)
            return True
        self.check_twisted(sheet, order, gap, straight)
        return False

    def test_one_box(self):
        sheet = Sheet(Net(["abcdefgh"], []), [], [0])
        for gap in (1, 100):
            self.assertEqual(self.check(sheet, [[0]], gap, []), [0])

    def test_a_row(self):
        sheet = Sheet(Net(["ab", "c", "def", "ghijklmn"], []), [], [0] * 4)
        self.assertEqual(self.check(sheet, [[0, 1, 2, 3]], 1, []), [0, 3, 5, 9])
        self.assertEqual(self.check(sheet, [[3, 2, 1, 0]], 1, []), [15, 13, 9, 0])
        self.assertEqual(self.check(sheet, [[3, 2, 1, 0]], 100, []), [312, 211, 108, 0])

    def test_an_arrow_pushed_in_one_row_moves_in_all(self):
        # Bends 4, 5, 6 of arrow 0 in rows 1, 2, 3; box 2 stands left of it in row 2.
        sheet = Sheet(Net(["a", "b", "cdef", "g"], [(0, 1)]), [], [0, 4, 2, 3])
        order = [[0], [4], [2, 5], [6, 3], [1]]
        self.assertEqual(self.check(sheet, order, 2, [0]), [0, 0, 0, 9, 6, 6, 6])
        self.assertEqual(self.check(sheet, order, 2, []), [0, 0, 0, 3, 0, 6, 0])

    def test_boxes_of_a_straight_arrow_stay(self):
        sheet = Sheet(Net(["a", "b", "cdef"], [(0, 1)]), [], [0, 3, 1])
        self.assertEqual(self.check(sheet, [[0], [2, 3], [4], [1]], 1, [0]), [0, 0, 0, 5, 5])

    def test_arrows_with_fewer_than_two_bends(self):
        sheet = Sheet(Net(["a", "b", "c", "d"], [(0, 1), (0, 2), (0, 3)]), [], [0, 1, 2, 2])
        order = [[0], [1, 5, 4], [3, 2]]
        for straight in ([], [0], [1], [2], [0, 1, 2], [2, 0, 1]):
            self.assertEqual(self.check(sheet, order, 3, straight), [0, 0, 4, 0, 8, 4])

    def test_twisted(self):
        sheet, order = twist()
        for gap in (1, 100):
            for straight in ([], [0], [1]):
                self.assertTrue(self.check_either(sheet, order, gap, straight))
            for straight in ([0, 1], [1, 0]):
                self.assertFalse(self.check_either(sheet, order, gap, straight))

    def test_pieces_from_and_to_boxes_may_cross(self):
        sheet, order = twist()
        for upper, lower in itertools.product(([0, 1], [1, 0]), ([2, 3], [3, 2])):
            self.assertEqual(self.check(sheet, [upper, [4, 6], [5, 7], lower], 1, [0, 1])[4:], [0, 0, 2, 2])
            self.assertEqual(self.check(sheet, [upper, [6, 4], [7, 5], lower], 1, [0, 1])[4:], [2, 2, 0, 0])

    def test_twisted_by_three_of_which_two_cross(self):
        # A box or a bend between two arrows has a part in it too.
        net = samples.net_of(7, [(0, 3), (1, 4), (2, 5)])
        sheet = Sheet(net, [], [0, 0, 0, 4, 4, 4, 2])
        for seed in range(60):
            dice = samples.chance(seed)
            order = samples.some_order(dice, sheet)
            for many in range(4):
                for straight in itertools.permutations(range(3), many):
                    self.check_either(sheet, order, 2, straight)

    def test_in_any_order(self):
        dice = samples.chance(221)
        sheet = samples.long_sheet()
        order = [line if row in (0, 11) else sorted(line) for row, line in enumerate(samples.some_order(dice, sheet))]
        arrows = list(range(24))
        wanted = self.check(sheet, order, 3, arrows)
        for count in range(5):
            dice.shuffle(arrows)
            self.assertEqual(self.check(sheet, order, 3, arrows), wanted)
            self.assertEqual(least_places(sheet, order, 3, tuple(arrows)), wanted)

    def test_five_side_by_side(self):
        pairs = [(0, 3), (1, 4), (2, 5), (0, 4), (1, 5)]
        sheet = Sheet(samples.net_of(6, pairs), [], [0, 0, 0, 11, 11, 11])
        order = first_order(sheet)
        places = self.check(sheet, order, 10, [0, 1, 2, 3, 4])
        self.assertEqual([places[sheet.way(arrow)[5]] for arrow in range(5)], [0, 11, 22, 33, 44])
        order = [line[::-1] for line in order]
        places = self.check(sheet, order, 10, [0, 1, 2, 3, 4])
        self.assertEqual([places[sheet.way(arrow)[5]] for arrow in range(5)], [44, 33, 22, 11, 0])

    def test_stairs(self):
        # Each arrow has two bends and shares a row with the next one alone, so that a push goes from row to row.
        rows = [0, 1, 2, 3, 4, 5, 6, 7, 8, 9, 10, 11]
        sheet = Sheet(samples.net_of(12, [(k, k + 3) for k in range(9)]), [], rows)
        for first in (0, 1):
            order = []
            for row in range(12):
                bends = [node for node in sheet.nodes_in(row) if sheet.arrow_of(node) is not None]
                order.append(([row] if first else []) + bends[::-1] + ([] if first else [row]))
            self.check(sheet, order, 4, list(range(9)))
            order = [line[::-1] for line in order]
            self.check(sheet, order, 4, list(range(9)))

    def test_small_sheets(self):
        dice = samples.chance(222)
        found = set()
        for sheet in named_sheets(223, samples.some_nets(224, 60, 2, 7, 8)):
            for count in range(3):
                order = samples.some_order(dice, sheet)
                straight = some_straight(dice, sheet)
                found.add(self.check_either(sheet, order, dice.choice((1, 2, 10, 100)), straight))
                self.assertTrue(self.check_either(sheet, order, 1, []))
        self.assertEqual(found, {True, False})

    def test_great_sheets(self):
        dice = samples.chance(225)
        for sheet in named_sheets(226, samples.great_nets(227, 6)):
            order = samples.some_order(dice, sheet)
            for arrows in range(5):
                self.check_either(sheet, order, 5, dice.sample(range(24), arrows))

    def test_long_sheets_in_good_time(self):
        sheet = samples.long_sheet()
        order = samples.some_order(samples.chance(228), sheet)
        self.assertRaises(Twisted, least_places, sheet, order, 1, list(range(24)))
        samples.check_time(self, lambda: self.check_either(sheet, order, 1, list(range(24))), 4)
        samples.check_time(self, lambda: self.check_either(sheet, first_order(sheet), 1, list(range(24))), 4)


class MostStraight(unittest.TestCase):
    def check(self, sheet, order, gap):
        told = most_straight(sheet, order, gap)
        samples.check_numbers(self, told)
        wanted = []
        for arrow in range(len(sheet.net().arrows())):
            if can_be(sheet, order, wanted + [arrow]):
                wanted.append(arrow)
        self.assertEqual(told, wanted)
        places = least_places(sheet, order, gap, told)
        self.assertTrue(all(samples.runs_straight(sheet, places, arrow) for arrow in told))
        for arrow in range(len(sheet.net().arrows())):
            if arrow not in told:
                self.assertRaises(Twisted, least_places, sheet, order, gap, told + [arrow])
        return told

    def test_no_arrow(self):
        sheet = Sheet(samples.net_of(5, []), [], [0, 0, 3, 3, 3])
        self.assertEqual(self.check(sheet, [[1, 0], [], [], [4, 3, 2]], 1), [])

    def test_of_two_that_cross_the_first(self):
        sheet, order = twist()
        for gap in (1, 100):
            self.assertEqual(self.check(sheet, order, gap), [0])
            self.assertEqual(self.check(sheet, [[0, 1], [6, 4], [5, 7], [2, 3]], gap), [0])
            self.assertEqual(self.check(sheet, [[0, 1], [4, 6], [5, 7], [3, 2]], gap), [0, 1])

    def test_one_that_is_left_out_hinders_none_behind_it(self):
        # Arrow 1 crosses arrow 0 and arrow 2, which do not cross.
        sheet = Sheet(samples.net_of(6, [(0, 3), (1, 4), (2, 5)]), [], [0, 0, 0, 3, 3, 3])
        order = [[0, 1, 2], [6, 8, 10], [9, 7, 11], [3, 4, 5]]
        self.assertEqual(self.check(sheet, order, 1), [0, 2])
        order = [[0, 1, 2], [8, 6, 10], [7, 11, 9], [3, 4, 5]]
        self.assertEqual(self.check(sheet, order, 1), [0, 2])

    def test_arrows_of_fewer_than_two_bends_are_all_taken(self):
        pairs = [(a, b) for a in range(4) for b in range(4, 8)]
        for last in (1, 2):
            sheet = Sheet(samples.net_of(8, pairs), [], [0] * 4 + [last] * 4)
            for seed in range(10):
                order = samples.some_order(samples.chance(seed), sheet)
                self.assertEqual(self.check(sheet, order, 1), list(range(16)))

    def test_many_side_by_side_are_all_taken(self):
        dice = samples.chance(231)
        sheet = samples.long_sheet()
        for count in range(4):
            side_by_side = dice.sample(range(24), 24)
            order = samples.some_order(dice, sheet)
            for row in range(1, 11):
                order[row] = [sheet.way(arrow)[row] for arrow in side_by_side]
            self.assertEqual(self.check(sheet, order, dice.choice((1, 5, 100))), list(range(24)))

    def test_two_whose_pieces_between_bends_do_not_cross(self):
        dice = samples.chance(232)
        for sheet in named_sheets(233, samples.some_nets(234, 30, 4, 9, 8)):
            order = samples.some_order(dice, sheet)
            boxes = sheet.net().many()
            between = [piece for piece in sheet.pieces() if min(piece) >= boxes]
            crossed = [{sheet.arrow_of(one[0]), sheet.arrow_of(other[0])}
                       for one, other in itertools.combinations(between, 2) if samples.cross(sheet, order, one, other)]
            for pair in itertools.combinations(range(len(sheet.net().arrows())), 2):
                if set(pair) not in crossed:
                    least_places(sheet, order, 1, pair)
                else:
                    self.assertRaises(Twisted, least_places, sheet, order, 1, pair)

    def test_many_sheets(self):
        dice = samples.chance(235)
        for sheet in named_sheets(236, samples.some_nets(237, 20, 2, 10, 14)):
            self.check(sheet, first_order(sheet), dice.choice((1, 3, 100)))
            self.check(sheet, samples.some_order(dice, sheet), dice.choice((1, 3, 100)))

    def test_long_sheets_in_good_time(self):
        sheet = samples.long_sheet()
        self.assertEqual((sheet.many_rows(), sheet.many_nodes()), (12, 252))
        for seed in (238, 239):
            order = samples.some_order(samples.chance(seed), sheet)
            told = samples.check_time(self, lambda: most_straight(sheet, order, 1), 8)
            self.assertEqual(told, self.check(sheet, order, 1))


class Refused(unittest.TestCase):
    def setUp(self):
        self.sheet = Sheet(samples.net_of(6, [(0, 3), (1, 4), (2, 5), (0, 4), (1, 3)]), [], [0, 0, 0, 3, 3, 3])
        self.order = first_order(self.sheet)
        self.places = least_places(self.sheet, self.order, 1, [])
        self.twisted = [self.order[0], self.order[1], self.order[2][::-1], self.order[3]]

    def test_no_order(self):
        for gap in (1, 100, 0, 101):
            samples.check_no_order(self, lambda sheet, order: is_kept(sheet, order, gap, [0] * 9))
            samples.check_no_order(self, lambda sheet, order: is_kept(sheet, order, gap, []))
            samples.check_no_order(self, lambda sheet, order: least_places(sheet, order, gap, []))
            samples.check_no_order(self, lambda sheet, order: least_places(sheet, order, gap, [3, -1]))
            samples.check_no_order(self, lambda sheet, order: most_straight(sheet, order, gap))

    def test_no_number(self):
        for gap in NO_GAPS:
            for order in samples.kinds_of(self.order):
                self.assertRaises(NoNumber, is_kept, self.sheet, order, gap, self.places)
                self.assertRaises(NoNumber, least_places, self.sheet, order, gap, [0])
                self.assertRaises(NoNumber, most_straight, self.sheet, order, gap)

    def test_no_number_beside_lists_that_are_no_places(self):
        for gap in NO_GAPS:
            for places in ([], [0], self.places[:-1], self.places + [0], [-1] + self.places[1:]):
                self.assertRaises(NoNumber, is_kept, self.sheet, self.order, gap, places)

    def test_no_number_ahead_of_no_arrow_and_twisted(self):
        for gap in NO_GAPS:
            for straight in ([5], [-1], [0, 0], [0, 1, 2, 3, 4]):
                self.assertRaises(NoNumber, least_places, self.sheet, self.twisted, gap, straight)

    def test_no_arrow(self):
        samples.check_no_turned(self, lambda straight: least_places(self.sheet, self.order, 1, straight))

    def test_no_arrow_ahead_of_twisted(self):
        self.assertRaises(Twisted, least_places, self.sheet, self.twisted, 1, [0, 1])
        samples.check_no_turned(self, lambda straight: least_places(self.sheet, self.twisted, 1, straight))

    def test_no_arrow_of_a_net_without_arrows(self):
        sheet = Sheet(samples.net_of(2, []), [], [0, 0])
        self.assertEqual(least_places(sheet, [[0, 1]], 1, []), [0, 2])
        with self.assertRaises(NoArrow) as caught:
            least_places(sheet, [[0, 1]], 1, [0])
        self.assertEqual(caught.exception.arrow, 0)

    def test_gaps_of_1_and_100(self):
        for gap in (1, 100):
            self.assertIs(is_kept(self.sheet, self.order, gap, least_places(self.sheet, self.order, gap, [0])), True)
            self.assertEqual(most_straight(self.sheet, self.order, gap), [0, 1, 2, 3, 4])


class LeftAlone(unittest.TestCase):
    """Point 2."""

    def setUp(self):
        net = Net(["ab", "c", "def", "g", "hij", "k"], [(0, 3), (1, 4), (2, 5), (0, 4), (1, 3)])
        self.sheet = Sheet(net, [], [0, 0, 0, 3, 3, 3])
        self.order = [[0, 2, 1], [6, 8, 10, 12, 14], [7, 9, 13, 11, 15], [3, 5, 4]]
        self.other = [[2, 1, 0], [14, 12, 6, 8, 10], [13, 15, 7, 9, 11], [5, 4, 3]]
        self.before = (self.sheet.pieces(), first_order(self.sheet))

    def tearDown(self):
        self.assertEqual((self.sheet.pieces(), first_order(self.sheet)), self.before)

    def test_orders(self):
        places = least_places(self.sheet, self.order, 2, [])
        for ask in (
            lambda order: is_kept(self.sheet, order, 2, places), lambda order: least_places(self.sheet, order, 2, []),
            lambda order: least_places(self.sheet, order, 3, [0, 1]), lambda order: most_straight(self.sheet, order, 2),
        ):
            samples.check_orders_apart(self, ask, self.order, self.other)

    def test_straight(self):
        def ask(straight):
            return least_places(self.sheet, self.order, 2, straight)
        self.assertNotEqual(ask([0]), ask([4, 3]))
        samples.check_kept_apart(self, ask, [4, 0, 3])
        samples.check_asked_anew(self, ask, [0], [4, 3])

    def test_places(self):
        def ask(places):
            return is_kept(self.sheet, self.order, 2, places)
        good = least_places(self.sheet, self.order, 2, [])
        wrong = [0] * len(good)
        self.assertEqual((ask(good), ask(wrong)), (True, False))
        samples.check_kept_apart(self, ask, good)
        samples.check_kept_apart(self, ask, wrong)
        samples.check_asked_anew(self, ask, good, wrong)

    def test_refused(self):
        wrong = [[0, 2, 2]] + self.order[1:]
        twisted = self.order[:2] + [self.order[2][::-1]] + self.order[3:]
        for refusal, order, straight in ((NoOrder, wrong, [0]), (NoArrow, self.order, [3, 0, 3]),
                                         (Twisted, twisted, [2, 1])):
            samples.check_refused_leaves(
                self, refusal, lambda order, straight: least_places(self.sheet, order, 1, straight), order, straight)
        samples.check_refused_leaves(self, NoNumber, lambda order: most_straight(self.sheet, order, 0), self.order)


if __name__ == "__main__":
    unittest.main()
