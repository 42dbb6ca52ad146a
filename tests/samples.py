"""What the tests share: nets to try, and looks of their own at rings, ways and what is told."""

import copy
import itertools
import random
import time

from arrowtiers.errors import NoArrow
from arrowtiers.nets import Net
from arrowtiers.sheets import Sheet

LETTERS = "abcdefghijklmnopqrstuvwxyz"
BIG = 10 ** 59
# For a net of five arrows: lists of turned arrows that are none, and the value that tells why.
NO_TURNED = (
    ([-1], -1), ([5], 5), ([0, 0], 0), ([4, 3, 2, 1, 0, 4], 4), ([1, 2, 1], 1), ([-BIG], -BIG), ([BIG], BIG),
    ([0, 5, -1], 5), ([0, -1, 5], -1), ([3, 3, 9], 3), ([3, 9, 3], 9), ([2, 4, 4, 2], 4), ([2, 4, 2, 4], 2),
    ([9, 9], 9), ([-2, 0, 0], -2), ([0, 1, 2, 3, 4, 5], 5), ([0, 1, 2, 3, 4, -5], -5), ([0, 1, 2, 3, 4, 0], 0),
)


def names_for(boxes):
    return list(LETTERS[:boxes])


def net_of(boxes, arrows):
    return Net(names_for(boxes), arrows)


def chance(seed):
    return random.Random(seed)


def some_net(dice, boxes, arrows):
    pairs = list(itertools.permutations(range(boxes), 2))
    return net_of(boxes, dice.sample(pairs, min(arrows, len(pairs))))


def some_nets(seed, many, least, most, most_arrows=24):
    """So many nets of least to most boxes, with any number of arrows."""
    dice = chance(seed)
    return [some_net(dice, dice.randint(least, most), dice.randint(0, most_arrows)) for count in range(many)]


def great_nets(seed, many):
    """So many nets of 12 boxes and 24 arrows."""
    dice = chance(seed)
    return [some_net(dice, 12, 24) for count in range(many)]


def some_turned(dice, net):
    """Some of the arrows, in any order."""
    arrows = list(range(len(net.arrows())))
    return dice.sample(arrows, dice.randint(0, len(arrows)))


def ringless_turned(dice, net):
    """Arrows that leave no ring once they are turned, in any order: those against an order that the dice tell."""
    order = dice.sample(range(net.many()), net.many())
    turned = [k for k, (a, b) in enumerate(net.arrows()) if order.index(b) < order.index(a)]
    dice.shuffle(turned)
    return turned


def goes(net, turned):
    """For each arrow where it goes from and where to, as it goes then."""
    return [(b, a) if turned.count(k) else (a, b) for k, (a, b) in enumerate(net.arrows())]


def has_ring(boxes, ends):
    """By all that can be reached from each box, not by following arrows."""
    reached = [[(a, b) in ends for b in range(boxes)] for a in range(boxes)]
    for k, a, b in itertools.product(range(boxes), repeat=3):
        if reached[a][k] and reached[k][b]:
            reached[a][b] = True
    return any(reached[a][a] for a in range(boxes))


def most_arrows_to(box, ends):
    """How many arrows the longest way to the box has."""
    return max([0] + [1 + most_arrows_to(a, ends) for a, b in ends if b == box])


def close_rows(net, turned):
    ends = goes(net, turned)
    return [most_arrows_to(box, ends) for box in range(net.many())]


def loose_rows(dice, net, turned):
    """Rows that are down, with empty ones between and ahead."""
    rows = close_rows(net, turned)
    spread = sorted(dice.sample(range(12), max(rows) + 1))
    return [spread[row] for row in rows]


def some_sheets(seed, nets):
    """Two sheets of each net, by close rows and by loose ones."""
    dice = chance(seed)
    sheets = []
    for net in nets:
        turned = ringless_turned(dice, net)
        sheets.append(Sheet(net, turned, close_rows(net, turned)))
        sheets.append(Sheet(net, turned, loose_rows(dice, net, turned)))
    return sheets


def some_order(dice, sheet):
    """The nodes of each row in any order."""
    rows = [sheet.row_of(node) for node in range(sheet.many_nodes())]
    order = [[node for node, its_row in enumerate(rows) if its_row == row] for row in range(sheet.many_rows())]
    for line in order:
        dice.shuffle(line)
    return order


def check_ring(case, ring, ends):
    case.assertIs(type(ring), list)
    case.assertTrue(ring)
    for arrow in ring:
        case.assertIs(type(arrow), int)
        case.assertIn(arrow, range(len(ends)))
    case.assertEqual(ring[0], min(ring))
    for arrow, following in zip(ring, ring[1:] + ring[:1]):
        case.assertEqual(ends[arrow][1], ends[following][0])
    left = [ends[arrow][0] for arrow in ring]
    case.assertEqual(len(set(left)), len(left))


def check_order(case, order, boxes):
    check_numbers(case, order)
    case.assertEqual(sorted(order), list(range(boxes)))


def check_numbers(case, told):
    case.assertIs(type(told), list)
    for number in told:
        case.assertIs(type(number), int)


def check_down(case, rows, boxes, ends):
    check_numbers(case, rows)
    case.assertEqual(len(rows), boxes)
    case.assertTrue(all(0 <= row <= 11 for row in rows), rows)
    case.assertTrue(all(rows[a] < rows[b] for a, b in ends), (rows, ends))


def as_tuples(thing):
    if isinstance(thing, (list, tuple)):
        return tuple(as_tuples(part) for part in thing)
    return thing


def spoil(told):
    """Alters every list that is told, those inside others too."""
    if isinstance(told, (list, tuple)):
        for part in told:
            spoil(part)
    if isinstance(told, list):
        told.reverse()
        told.append("spoilt")


def check_kept_apart(case, ask, *given):
    """Point 2 of a call, and of what it tells: ask is called with the lists that are given."""
    before = copy.deepcopy(given)
    told = ask(*given)
    fresh = copy.deepcopy(told)
    case.assertEqual(given, before)
    case.assertEqual(ask(*given), fresh)
    spoil(told)
    case.assertEqual(given, before)
    case.assertEqual(ask(*given), fresh)
    case.assertEqual(ask(*as_tuples(before)), fresh)
    case.assertEqual(given, before)


def check_asked_anew(case, ask, given, other):
    """Point 2: one and the same list, altered between two calls, is answered by what it holds then."""
    held = copy.deepcopy(given)
    case.assertEqual(ask(held), ask(copy.deepcopy(given)))
    held[:] = copy.deepcopy(other)
    case.assertEqual(ask(held), ask(copy.deepcopy(other)))
    held[:] = copy.deepcopy(given)
    case.assertEqual(ask(held), ask(copy.deepcopy(given)))


def check_refused_leaves(case, refusal, ask, *given):
    before = copy.deepcopy(given)
    case.assertRaises(refusal, ask, *given)
    case.assertEqual(given, before)
    case.assertRaises(refusal, ask, *as_tuples(given))


def check_no_turned(case, ask):
    """NoArrow of ask(turned), for a net of five arrows."""
    for turned, arrow in NO_TURNED:
        for given in (turned, tuple(turned)):
            with case.assertRaises(NoArrow) as caught:
                ask(given)
            case.assertEqual(caught.exception.arrow, arrow, turned)


def check_time(case, ask, seconds):
    """Far more than is needed, far less than all orders or all deals would take."""
    start = time.monotonic()
    told = ask()
    case.assertLess(time.monotonic() - start, seconds)
    return told
