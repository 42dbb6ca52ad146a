"""Arrows to be turned: those that go against an order of the boxes."""

from arrowtiers.bits import bit_counts, boxes_in, partner_bits
from arrowtiers.nets import check_order


def against(net, order):
    check_order(order, net.many())
    places = {box: at for at, box in enumerate(order)}
    return [at for at, (start, end) in enumerate(net.arrows()) if places[end] < places[start]]


def best_last_boxes(net):
    """For each set of boxes that stand ahead of all others, the one that should be the last of them.

    How those ahead of it stand is settled by the smaller set, so each set is looked at once.
    """
    aims = partner_bits(net.many(), net.arrows())
    counts = bit_counts(net.many())
    costs = [0]
    lasts = [None]
    for front in range(1, 1 << net.many()):
        choices = [(costs[front ^ (1 << box)] + counts[aims[box] & front], box) for box in boxes_in(front)]
        cost, box = min(choices)
        costs.append(cost)
        lasts.append(box)
    return lasts


def fewest_turned(net):
    lasts = best_last_boxes(net)
    front = (1 << net.many()) - 1
    backwards = []
    while front:
        backwards.append(lasts[front])
        front ^= 1 << lasts[front]
    order = backwards[::-1]
    return order, against(net, order)


def near_turned(net):
    order = list(range(net.many()))
    turned = against(net, order)
    # Each arrow goes against just one of an order and the same order backwards.
    if 2 * len(turned) > len(net.arrows()):
        order = order[::-1]
        turned = against(net, order)
    return order, turned
