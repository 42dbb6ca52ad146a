"""Arrows to be turned: those that go against an order of the boxes."""

from arrowtiers.bits import best_order, bit_counts, partner_bits
from arrowtiers.nets import check_order


def against(net, order):
    check_order(order, net.many())
    places = {box: at for at, box in enumerate(order)}
    return [at for at, (start, end) in enumerate(net.arrows()) if places[end] < places[start]]


def fewest_turned(net):
    aims = partner_bits(net.many(), net.arrows())
    counts = bit_counts(net.many())
    order = best_order(net.many(), lambda box, ahead: counts[aims[box] & ahead])
    return order, against(net, order)


def near_turned(net):
    order = list(range(net.many()))
    turned = against(net, order)
    # Each arrow goes against just one of an order and the same order backwards.
    if 2 * len(turned) > len(net.arrows()):
        order = order[::-1]
        turned = against(net, order)
    return order, turned
