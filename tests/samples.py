"""What the tests share: nets to try, and looks of their own at rings, ways and what is told."""

import copy
import itertools
import random
import time

from arrowtiers.drawings import Drawing
from arrowtiers.errors import NoArrow, NoOrder
from arrowtiers.nets import Net
from arrowtiers.sheets import Sheet

LETTERS = "abcdefghijklmnopqrstuvwxyz"
BIG = 10 ** 59
# For a net of five arrows: lists of turned arrows that are none, and the value that tells why.
NO_TURNED = (
    ([-1], -1), ([5], 5), ([0, 0], 0), ([4, 3, 2, 1, 0, 4], 4), ([1, 2, 1], 1), ([-BIG], -BIG), ([BIG], BIG),
    ([0, 5, -1], 5), ([0, -1, 5], -1), ([3, 3, 9], 3), ([3, 9, 3], 9), ([2, 4, 4, 2], 4), ([2, 4, 2, 4], 2),
    ([9, 9], 9), ([-2, 0, 0], -2), ([0, 1, 2, 3, 4, 5], 5), ([0, 1, 2, 3, 4, -5], -5), ([0, 1, 2, 3, 4, 0], 0),
)


def names_for(boxes):
    return list(LETTERS[:boxes])


def net_of(boxes, arrows):
    return Net(names_for(boxes), arrows)


def chance(seed):
    return random.Random(seed)


def some_net(dice, boxes, arrows):
    pairs = list(itertools.permutations(range(boxes), 2))
    return net_of(boxes, dice.sample(pairs, min(arrows, len(pairs))))


def some_nets(seed, many, least, most, most_arrows=24):
    """So many nets of least to most boxes, with any number of arrows."""
    dice = chance(seed)
    return [some_net(dice, dice.randint(least, most), dice.randint(0, most_arrows)) for count in range(many)]


def with_names(dice, net):
    """The same net with names of one to eight letters."""
    names = []
    while len(names) < net.many():
        name = "".join(dice.choices(LETTERS, k=dice.choice((1, 2, 3, 5, 8))))
        if name not in names:
            names.append(name)
    return Net(names, net.arrows())


def great_nets(seed, many):
    """So many nets of 12 boxes and 24 arrows."""
    dice = chance(seed)
    return [some_net(dice, 12, 24) for count in range(many)]


def some_turned(dice, net):
    """Some of the arrows, in any order."""
    arrows = list(range(len(net.arrows())))
    return dice.sample(arrows, dice.randint(0, len(arrows)))


def ringless_turned(dice, net):
    """Arrows that leave no ring once they are turned, in any order: those against an order that the dice tell."""
    order = dice.sample(range(net.many()), net.many())
    turned = [k for k, (a, b) in enumerate(net.arrows()) if order.index(b) < order.index(a)]
    dice.shuffle(turned)
    return turned


def goes(net, turned):
    """For each arrow where it goes from and where to, as it goes then."""
    return [(b, a) if turned.count(k) else (a, b) for k, (a, b) in enumerate(net.arrows())]


def has_ring(boxes, ends):
    """By all that can be reached from each box, not by following arrows."""
    reached = [[(a, b) in ends for b in range(boxes)] for a in range(boxes)]
    for k, a, b in itertools.product(range(boxes), repeat=3):
        if reached[a][k] and reached[k][b]:
            reached[a][b] = True
    return any(reached[a][a] for a in range(boxes))


def most_arrows_to(box, ends):
    """How many arrows the longest way to the box has."""
    return max([0] + [1 + most_arrows_to(a, ends) for a, b in ends if b == box])


def close_rows(net, turned):
    ends = goes(net, turned)
    return [most_arrows_to(box, ends) for box in range(net.many())]


def loose_rows(dice, net, turned):
    """Rows that are down, with empty ones between and ahead."""
    rows = close_rows(net, turned)
    spread = sorted(dice.sample(range(12), max(rows) + 1))
    return [spread[row] for row in rows]


def some_sheets(seed, nets):
    """Two sheets of each net, by close rows and by loose ones."""
    dice = chance(seed)
    sheets = []
    for net in nets:
        turned = ringless_turned(dice, net)
        sheets.append(Sheet(net, turned, close_rows(net, turned)))
        sheets.append(Sheet(net, turned, loose_rows(dice, net, turned)))
    return sheets


def some_order(dice, sheet):
    """The nodes of each row in any order."""
    rows = [sheet.row_of(node) for node in range(sheet.many_nodes())]
    order = [[node for node, its_row in enumerate(rows) if its_row == row] for row in range(sheet.many_rows())]
    for line in order:
        dice.shuffle(line)
    return order


def all_orders(sheet):
    rows = [sheet.row_of(node) for node in range(sheet.many_nodes())]
    lines = [[node for node, its_row in enumerate(rows) if its_row == row] for row in range(sheet.many_rows())]
    return itertools.product(*[itertools.permutations(line) for line in lines])


def two_orders():
    """A sheet, and two orders of it that cross otherwise."""
    sheet = Sheet(net_of(6, [(0, 4), (1, 3), (2, 3), (0, 5), (2, 5)]), [], [0, 0, 0, 1, 1, 2])
    return sheet, [[0, 2, 1], [3, 4, 7, 6], [5]], [[2, 1, 0], [7, 3, 4, 6], [5]]


def flat_sheet(above, below, arrows):
    """Boxes in two rows, so many in the upper one, so many in the lower one."""
    return Sheet(net_of(above + below, arrows), [], [0] * above + [1] * below)


def long_sheet():
    """As many nodes as a sheet can have: 24 arrows, each from row 0 to row 11."""
    arrows = [(a, b) for a in range(6) for b in range(6, 12)][:24]
    return Sheet(net_of(12, arrows), [], [0] * 6 + [11] * 6)


def cross(sheet, order, one, other):
    """Whether two pieces do, by where their ends stand in the lists."""
    (a, b), (c, d) = one, other
    if sheet.row_of(a) != sheet.row_of(c) or a == c or b == d:
        return False
    above, below = order[sheet.row_of(a)], order[sheet.row_of(a) + 1]
    return (above.index(a) < above.index(c)) != (below.index(b) < below.index(d))


def pairs_of(sheet, order):
    """The pairs of numbers of pieces that cross."""
    numbered = list(enumerate(sheet.pieces()))
    return [(i, j) for (i, one), (j, other) in itertools.combinations(numbered, 2) if cross(sheet, order, one, other)]


def sum_by_pieces(sheet, order, u, v):
    """How many cross with u left of v, by a row in which both stand ahead of all others."""
    row = sheet.row_of(u)
    other = [list(line) for line in order]
    other[row] = [u, v] + [node for node in order[row] if node not in (u, v)]
    to_u = [piece for piece in sheet.pieces() if piece[1] == u]
    to_v = [piece for piece in sheet.pieces() if piece[1] == v]
    return sum(cross(sheet, other, one, another) for one in to_u for another in to_v)


def width_of(sheet, node):
    return len(sheet.net().names()[node]) if sheet.arrow_of(node) is None else 1


def keeps(sheet, order, gap, places):
    """Whether these are places that keep order and gap, node by node."""
    if len(places) != sheet.many_nodes() or min(places) < 0:
        return False
    pairs = [pair for line in order for pair in zip(line, line[1:])]
    return all(places[right] - places[left] >= width_of(sheet, left) + gap for left, right in pairs)


def runs_straight(sheet, places, arrow):
    return len({places[node] for node in sheet.way(arrow) if sheet.arrow_of(node) == arrow}) <= 1


def some_places(dice, sheet, order, gap):
    """Places that keep order and gap, some just so, some with more room."""
    places = [0] * sheet.many_nodes()
    for line in order:
        at = dice.choice((0, 0, 1, 7))
        for node in line:
            places[node] = at
            at += width_of(sheet, node) + gap + dice.choice((0, 0, 0, 1, 2, 9))
    return places


def some_drawings(seed, nets):
    """Of each net two drawings, with other names, in any order, with any gap."""
    dice = chance(seed)
    drawings = []
    for sheet in some_sheets(seed + 1, [with_names(dice, net) for net in nets]):
        order = some_order(dice, sheet)
        gap = dice.choice((1, 2, 3, 10, 100))
        drawings.append(Drawing(sheet, order, gap, some_places(dice, sheet, order, gap)))
    return drawings


def told_by_sheet(sheet):
    nodes = range(sheet.many_nodes())
    return (
        sheet.net().names(), sheet.net().arrows(), sheet.turned(), sheet.rows(), sheet.many_rows(),
        sheet.many_nodes(), [sheet.row_of(node) for node in nodes], [sheet.arrow_of(node) for node in nodes],
        [sheet.nodes_in(row) for row in range(sheet.many_rows())], sheet.pieces(),
        [sheet.way(arrow) for arrow in range(len(sheet.net().arrows()))],
    )


def told_by_drawing(drawing):
    return told_by_sheet(drawing.sheet()), drawing.order(), drawing.gap(), drawing.places()


def text_of(sheet, order, places):
    """The text of a drawing, as the tests write it."""
    names = sheet.net().names()
    ways = [sheet.way(arrow) for arrow in range(len(sheet.net().arrows()))]
    rows = []
    for row, line in enumerate(order):
        if row > 0:
            above = order[row - 1]
            pieces = [(above.index(a), line.index(b), sheet.turned().count(arrow), a, b)
                      for arrow, way in enumerate(ways) for a, b in zip(way, way[1:]) if b in line]
            rows.append("down" + "".join(f" {places[a]}{'-^'[up]}{places[b]}" for *ends, up, a, b in sorted(pieces)))
        rows.append("row" + "".join(f" {places[node]}:{(names + ['.'])[min(node, len(names))]}" for node in line))
    return "".join(row + "\n" for row in rows)


def kinds_of(order):
    """The order as lists of lists, tuples of tuples, and either inside the other."""
    return (
        [list(line) for line in order], tuple(tuple(line) for line in order), [tuple(line) for line in order],
        tuple(list(line) for line in order), [list(line) if at % 2 else tuple(line) for at, line in enumerate(order)],
    )


def sheet_for_orders():
    """Its rows of nodes, rising: [0, 1], [2, 6], [7, 8], [3, 4, 5]."""
    return Sheet(net_of(6, [(0, 2), (1, 3), (2, 5)]), [], [0, 0, 1, 3, 3, 3])


def wrong_orders():
    """What is no order of that sheet."""
    good = [[0, 1], [2, 6], [7, 8], [3, 4, 5]]
    return (
        [], [[]], good[:-1], good[1:], good + [[]], good + [[0]], [[]] + good, good[::-1],
        [[0]] + good[1:], [[]] + good[1:], [[0, 1, 0]] + good[1:], [[0, 0]] + good[1:], [[1, 1]] + good[1:],
        [[0, 1, 2]] + good[1:], [[0, 2], [1, 6]] + good[2:], [[1, 2]] + good[1:],
        [[0, -1]] + good[1:], [[0, 1, -1]] + good[1:], [[0, 99]] + good[1:], [[0, 1, 99]] + good[1:],
        [[0, BIG]] + good[1:], [[0, -BIG]] + good[1:], [good[1], good[0]] + good[2:],
        good[:-1] + [[]], good[:-1] + [[3, 4]], good[:-1] + [[3, 4, 5, 5]], good[:-1] + [[3, 4, 9]],
        [[0, 1, 2, 6], []] + good[2:], [[-2, -1]] + good[1:], [[]] * len(good),
    )


def check_ring(case, ring, ends):
    case.assertIs(type(ring), list)
    case.assertTrue(ring)
    for arrow in ring:
        case.assertIs(type(arrow), int)
        case.assertIn(arrow, range(len(ends)))
    case.assertEqual(ring[0], min(ring))
    for arrow, following in zip(ring, ring[1:] + ring[:1]):
        case.assertEqual(ends[arrow][1], ends[following][0])
    left = [ends[arrow][0] for arrow in ring]
    case.assertEqual(len(set(left)), len(left))


def check_order(case, order, boxes):
    check_numbers(case, order)
    case.assertEqual(sorted(order), list(range(boxes)))


def check_numbers(case, told):
    case.assertIs(type(told), list)
    for number in told:
        case.assertIs(type(number), int)


def check_down(case, rows, boxes, ends):
    check_numbers(case, rows)
    case.assertEqual(len(rows), boxes)
    case.assertTrue(all(0 <= row <= 11 for row in rows), rows)
    case.assertTrue(all(rows[a] < rows[b] for a, b in ends), (rows, ends))


def as_tuples(thing):
    if isinstance(thing, (list, tuple)):
        return tuple(as_tuples(part) for part in thing)
    return thing


def spoil(told):
    """Alters every list that is told, those inside others too."""
    if isinstance(told, (list, tuple)):
        for part in told:
            spoil(part)
    if isinstance(told, list):
        told.reverse()
        told.append("spoilt")


def check_kept_apart(case, ask, *given):
    """Point 2 of a call, and of what it tells: ask is called with the lists that are given."""
    before = copy.deepcopy(given)
    told = ask(*given)
    fresh = copy.deepcopy(told)
    case.assertEqual(given, before)
    case.assertEqual(ask(*given), fresh)
    spoil(told)
    case.assertEqual(given, before)
    case.assertEqual(ask(*given), fresh)
    case.assertEqual(ask(*as_tuples(before)), fresh)
    case.assertEqual(given, before)


def check_asked_anew(case, ask, given, other):
    """Point 2: one and the same list, altered between two calls, is answered by what it holds then."""
    held = copy.deepcopy(given)
    case.assertEqual(ask(held), ask(copy.deepcopy(given)))
    held[:] = copy.deepcopy(other)
    case.assertEqual(ask(held), ask(copy.deepcopy(other)))
    held[:] = copy.deepcopy(given)
    case.assertEqual(ask(held), ask(copy.deepcopy(given)))


def check_refused_leaves(case, refusal, ask, *given):
    before = copy.deepcopy(given)
    case.assertRaises(refusal, ask, *given)
    case.assertEqual(given, before)
    case.assertRaises(refusal, ask, *as_tuples(given))


def check_no_turned(case, ask):
    """NoArrow of ask(turned), for a net of five arrows."""
    for turned, arrow in NO_TURNED:
        for given in (turned, tuple(turned)):
            with case.assertRaises(NoArrow) as caught:
                ask(given)
            case.assertEqual(caught.exception.arrow, arrow, turned)


def check_no_order(case, ask):
    """NoOrder of ask(sheet, order)."""
    sheet = sheet_for_orders()
    for order in wrong_orders():
        for given in kinds_of(order):
            case.assertRaises(NoOrder, ask, sheet, given)


def check_orders_apart(case, ask, order, other):
    """Point 2 of ask(order), which tells something else of the other order."""
    case.assertNotEqual(ask(order), ask(other))
    for one, another in ((order, other), (other, order)):
        check_kept_apart(case, ask, one)
        check_asked_anew(case, ask, one, another)
        for given in kinds_of(one):
            case.assertEqual(ask(given), ask(one))
        held = [list(line) for line in one]
        ask(held)
        for line, new in zip(held, another):
            line[:] = new
        case.assertEqual(ask(held), ask(another))


def check_time(case, ask, seconds):
    """Far more than is needed, far less than all orders or all deals would take."""
    start = time.monotonic()
    told = ask()
    case.assertLess(time.monotonic() - start, seconds)
    return told
