"""Nets drawn from the beginning to the end."""

from arrowtiers.drawings import Drawing
from arrowtiers.exchanges import exchanged
from arrowtiers.lengths import shortest_rows
from arrowtiers.places import least_places, most_straight
from arrowtiers.sheets import Sheet, first_order
from arrowtiers.sweeps import swept
from arrowtiers.turning import fewest_turned

SWEEPS = 6


def drawn(net, gap):
    box_order, turned = fewest_turned(net)
    rows, flow = shortest_rows(net, turned)
    sheet = Sheet(net, turned, rows)
    swept_order, counts = swept(sheet, first_order(sheet), SWEEPS)
    order, deeds = exchanged(sheet, swept_order)
    # The gap is looked at by the last two alone, which refuse it if need be.
    straight = most_straight(sheet, order, gap)
    return Drawing(sheet, order, gap, least_places(sheet, order, gap, straight))
