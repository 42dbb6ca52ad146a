"""Point 27: nets drawn from the beginning to the end; point 3 over them; point 2."""

import copy
import itertools
import unittest

from arrowtiers.best import best_row
from arrowtiers.changes import put_in, taken_out
from arrowtiers.crossings import crossing_pairs, crossings
from arrowtiers.drawings import Drawing
from arrowtiers.drawingtexts import read_drawing, show_drawing
from arrowtiers.drawn import drawn
from arrowtiers.errors import NoNumber
from arrowtiers.exchanges import exchanged
from arrowtiers.lengths import shortest_rows
from arrowtiers.nets import Net, renumbered
from arrowtiers.places import least_places, most_straight
from arrowtiers.rings import rings_apart
from arrowtiers.rows import fewest_rows
from arrowtiers.sheets import Sheet, first_order
from arrowtiers.sweeps import swept
from arrowtiers.turning import fewest_turned
from arrowtiers.widths import rows_within

import samples

BIG = samples.BIG


def step_by_step(net, gap):
    turned = fewest_turned(net)[1]
    sheet = Sheet(net, turned, shortest_rows(net, turned)[0])
    order = exchanged(sheet, swept(sheet, first_order(sheet), 6)[0])[0]
    return Drawing(sheet, order, gap, least_places(sheet, order, gap, most_straight(sheet, order, gap)))


def some_named_nets(seed, many, least, most):
    dice = samples.chance(seed)
    return [samples.with_names(dice, net) for net in samples.some_nets(seed + 1, many, least, most)]


def boxes_at(drawing):
    """For each name the row and the place."""
    sheet = drawing.sheet()
    return dict(zip(sheet.net().names(), zip(sheet.rows(), drawing.places())))


class Drawn(unittest.TestCase):
    def check(self, net, gap):
        drawing = drawn(net, gap)
        self.assertIsInstance(drawing, Drawing)
        self.assertEqual(samples.told_by_drawing(drawing), samples.told_by_drawing(step_by_step(net, gap)))
        self.assertEqual(drawing.sheet().net().names(), net.names())
        self.assertEqual(drawing.sheet().net().arrows(), net.arrows())
        self.assertEqual(drawing.gap(), gap)
        return drawing

    def test_one_box(self):
        for gap in (1, 100):
            self.assertEqual(show_drawing(self.check(Net(["cat"], []), gap)), "row 0:cat\n")

    def test_no_arrows(self):
        drawing = self.check(Net(["cat", "a", "dove"], []), 2)
        self.assertEqual(show_drawing(drawing), "row 0:cat 5:a 8:dove\n")

    def test_one_arrow(self):
        self.assertEqual(show_drawing(self.check(Net(["cat", "dog"], [(1, 0)]), 1)), "row 0:dog\ndown 0-0\nrow 0:cat\n")

    def test_two_arrows_that_need_not_cross(self):
        drawing = self.check(Net(["a", "b", "c", "d"], [(0, 3), (1, 2)]), 1)
        self.assertEqual(crossings(drawing.sheet(), drawing.order()), 0)

    def test_a_ring(self):
        drawing = self.check(Net(["a", "b"], [(0, 1), (1, 0)]), 1)
        self.assertEqual(len(drawing.sheet().turned()), 1)
        self.assertEqual(read_drawing(show_drawing(drawing))[1], [("a", "b"), ("b", "a")])

    def test_six_turns_no_more_and_no_fewer(self):
        by_five = [(0, 5), (5, 6), (2, 4), (1, 3), (2, 1), (1, 2), (2, 6), (9, 5), (8, 4), (0, 7), (5, 9), (3, 4),
                   (8, 5)]
        by_seven = [(10, 8), (9, 7), (10, 0), (3, 6), (4, 10), (9, 1), (1, 5), (7, 2), (5, 2), (8, 4), (3, 0)]
        for net, turns in ((samples.net_of(10, by_five), 5), (samples.net_of(11, by_seven), 7)):
            sheet = self.check(net, 1).sheet()
            other = exchanged(sheet, swept(sheet, first_order(sheet), turns)[0])[0]
            self.assertNotEqual(drawn(net, 1).order(), other)

    def test_many_nets(self):
        for net in some_named_nets(281, 40, 1, 12):
            for gap in (1, 3, 100):
                self.check(net, gap)

    def test_gaps(self):
        net = samples.net_of(3, [(0, 1), (0, 2)])
        for gap in (1, 2, 99, 100):
            self.assertEqual(drawn(net, gap).gap(), gap)
        for gap in (0, -1, 101, 102, -100, BIG, -BIG):
            self.assertRaises(NoNumber, drawn, net, gap)
            self.assertRaises(NoNumber, drawn, samples.net_of(1, []), gap)

    def test_renumbered(self):
        dice = samples.chance(282)
        for net in some_named_nets(283, 25, 2, 12):
            drawing = drawn(net, 1)
            for count in range(3):
                other = drawn(renumbered(net, dice.sample(range(net.many()), net.many())), 1)
                self.assertEqual(len(other.sheet().turned()), len(drawing.sheet().turned()))
                told, wanted = (read_drawing(show_drawing(one)) for one in (other, drawing))
                self.assertEqual((sorted(told[0]), told[1]), (sorted(wanted[0]), wanted[1]))

    def test_great_nets_in_good_time(self):
        for net in samples.great_nets(284, 6):
            drawing = samples.check_time(self, lambda: drawn(net, 2), 5)
            self.assertEqual(samples.told_by_drawing(drawing), samples.told_by_drawing(step_by_step(net, 2)))

    def test_a_long_net_in_good_time(self):
        # A way through all boxes, and as many arrows as can be that go far beside it.
        way = [(k, k + 1) for k in range(11)]
        far = sorted(((a, b) for a in range(12) for b in range(a + 2, 12)), key=lambda pair: pair[0] - pair[1])
        net = samples.net_of(12, way + far[:13])
        drawing = samples.check_time(self, lambda: self.check(net, 1), 5)
        self.assertEqual(drawing.sheet().many_rows(), 12)
        self.assertGreater(drawing.sheet().many_nodes(), 100)


class TheWhole(unittest.TestCase):
    """Point 3, promise by promise, over drawn nets."""

    @classmethod
    def setUpClass(cls):
        cls.nets = some_named_nets(285, 20, 1, 9) + samples.great_nets(286, 3)
        cls.drawings = [drawn(net, 1 + 7 * at % 30) for at, net in enumerate(cls.nets)]

    def test_turned_arrows_are_as_few_as_any(self):
        for drawing in self.drawings:
            net, turned = drawing.sheet().net(), drawing.sheet().turned()
            self.assertFalse(samples.has_ring(net.many(), samples.goes(net, turned)))
            self.assertLessEqual(len(rings_apart(net)), len(turned))
            if len(net.arrows()) <= 10:
                for fewer in itertools.combinations(range(len(net.arrows())), max(0, len(turned) - 1)):
                    self.assertEqual(samples.has_ring(net.many(), samples.goes(net, fewer)), len(turned) > 0)

    def test_rings_told_have_no_arrow_in_common(self):
        for net in self.nets:
            rings = rings_apart(net)
            for ring in rings:
                samples.check_ring(self, ring, net.arrows())
            used = [arrow for ring in rings for arrow in ring]
            self.assertEqual(len(used), len(set(used)))
            self.assertFalse(samples.has_ring(net.many(), [ends for at, ends in enumerate(net.arrows())
                                                           if at not in used]))

    def test_arrows_go_down_and_rows_are_few(self):
        for drawing in self.drawings:
            net, turned = drawing.sheet().net(), drawing.sheet().turned()
            ends = samples.goes(net, turned)
            samples.check_down(self, drawing.sheet().rows(), net.many(), ends)
            rows, way = fewest_rows(net, turned)
            samples.check_down(self, rows, net.many(), ends)
            self.assertEqual([rows[box] for box in way], list(range(max(rows) + 1)))
            self.assertTrue(all(pair in ends for pair in zip(way, way[1:])))
            for width in (1, 2, 12):
                rows = rows_within(net, turned, width)
                samples.check_down(self, rows, net.many(), ends)
                self.assertLessEqual(max(rows.count(row) for row in rows), width)

    def test_lengths_and_flow_come_to_the_same(self):
        for drawing in self.drawings:
            net, turned = drawing.sheet().net(), drawing.sheet().turned()
            rows, flow = shortest_rows(net, turned)
            self.assertEqual(rows, drawing.sheet().rows())
            ends = samples.goes(net, turned)
            self.assertEqual(min(rows), 0)
            self.assertEqual(sum(flow), sum(rows[b] - rows[a] for a, b in ends))
            self.assertEqual(sum(flow), len(drawing.sheet().pieces()))
            self.assertTrue(all(many >= 0 for many in flow))
            for box in range(net.many()):
                come = [at for at, (a, b) in enumerate(ends) if b == box]
                go = [at for at, (a, b) in enumerate(ends) if a == box]
                self.assertEqual(sum(flow[at] for at in come) - sum(flow[at] for at in go), len(come) - len(go))

    def test_crossings_are_those_of_the_pieces(self):
        for drawing in self.drawings:
            sheet, order = drawing.sheet(), drawing.order()
            pairs = samples.pairs_of(sheet, order)
            self.assertEqual((crossing_pairs(sheet, order), crossings(sheet, order)), (pairs, len(pairs)))

    def test_sweeps_and_exchanges_never_add_one(self):
        for drawing in self.drawings:
            sheet = drawing.sheet()
            first = first_order(sheet)
            best, counts = swept(sheet, first, 6)
            crossed = [len(samples.pairs_of(sheet, order)) for order in (first, best, drawing.order())]
            self.assertEqual(crossed, sorted(crossed, reverse=True))
            self.assertEqual((counts[0], min(counts)), tuple(crossed[:2]))

    def test_no_order_of_a_row_beats_the_best(self):
        for drawing in self.drawings:
            sheet, order = drawing.sheet(), drawing.order()
            for row in range(1, sheet.many_rows()):
                if len(order[row]) > 5:
                    continue
                line, many, floor = best_row(sheet, order, row)
                numbers = [at for at, (a, b) in enumerate(sheet.pieces()) if sheet.row_of(b) == row]
                crossed = []
                for other in [line] + list(itertools.permutations(order[row])):
                    put = order[:row] + [list(other)] + order[row + 1:]
                    crossed.append(len([pair for pair in samples.pairs_of(sheet, put) if pair[0] in numbers]))
                self.assertEqual((crossed[0], min(crossed)), (many, many))
                self.assertLessEqual(floor, many)

    def test_places(self):
        for drawing in self.drawings:
            sheet, order, gap, places = drawing.sheet(), drawing.order(), drawing.gap(), drawing.places()
            self.assertTrue(samples.keeps(sheet, order, gap, places))
            straight = most_straight(sheet, order, gap)
            self.assertTrue(all(samples.runs_straight(sheet, places, arrow) for arrow in straight))
            ahead = {right: left for line in order for left, right in zip(line, line[1:])}
            for node, place in enumerate(places):
                arrow = sheet.arrow_of(node)
                moves = sheet.way(arrow)[1:-1] if arrow in straight else [node]
                # Were these all a step further to the left, some would be too near its neighbour, or below 0.
                near = [left for left in (ahead.get(other) for other in moves) if left is not None
                        and places[left] + samples.width_of(sheet, left) + gap == place]
                self.assertTrue(place == 0 or near)

    def test_texts_tell_the_net_again(self):
        for drawing in self.drawings:
            sheet = drawing.sheet()
            names = sheet.net().names()
            arrows = [(names[a], names[b]) for a, b in sheet.net().arrows()]
            text = show_drawing(drawing)
            self.assertEqual(text, samples.text_of(sheet, drawing.order(), drawing.places()))
            told = read_drawing(text)
            self.assertEqual(sorted(told[0]), sorted(names))
            self.assertEqual(told[1:], (sorted(arrows), sorted(arrows[at] for at in sheet.turned())))

    def test_no_box_moves_but_the_told_ones(self):
        for drawing in self.drawings:
            elder = boxes_at(drawing)
            for row, line in enumerate(drawing.order()):
                for at in range(len(line) + 1) if len(elder) < 12 else ():
                    new, moved = put_in(drawing, "aaaaaaaa", row, at)
                    now = boxes_at(new)
                    self.assertEqual(now.pop("aaaaaaaa")[0], row)
                    self.assertEqual(set(moved), {name for name in elder if now[name] != elder[name]})
                    self.assertEqual(list(now), list(elder))
            for name in elder if len(elder) > 1 else ():
                now = boxes_at(taken_out(drawing, name))
                self.assertEqual(now, {other: elder[other] for other in elder if other != name})


class LeftAlone(unittest.TestCase):
    """Point 2."""

    def test_asked_again(self):
        for net in some_named_nets(287, 10, 2, 10):
            before = (net.names(), net.arrows())
            told = copy.deepcopy(samples.told_by_drawing(drawn(net, 3)))
            drawing = drawn(net, 3)
            samples.spoil([drawing.order(), drawing.places(), drawing.sheet().rows(), drawing.sheet().turned()])
            self.assertEqual(samples.told_by_drawing(drawing), told)
            self.assertEqual(samples.told_by_drawing(drawn(net, 3)), told)
            self.assertEqual((net.names(), net.arrows()), before)
            twin = Net(tuple(before[0]), tuple(before[1]))
            self.assertEqual(samples.told_by_drawing(drawn(twin, 3)), told)


if __name__ == "__main__":
    unittest.main()
