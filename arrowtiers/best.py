"""A row put in the best order below the row above it."""

from arrowtiers.bits import best_order, boxes_in
from arrowtiers.crossings import crossed, nodes_above, places_in
from arrowtiers.errors import NoRow, TooMany
from arrowtiers.sheets import check_sheet_order

MOST_NODES = 8


def nodes_to_order(sheet, row):
    if row == 0:
        raise NoRow("there is no row above the first one")
    nodes = sheet.nodes_in(row)
    if len(nodes) > MOST_NODES:
        raise TooMany(f"row {row} has more than {MOST_NODES} nodes")
    return nodes


def sums_of(sheet, order, nodes):
    """For each two of the nodes, by their numbers in the list, how many pairs cross with the first one left."""
    above = nodes_above(sheet)
    places = places_in(order)
    return [[crossed(above[left], above[right], places) for right in nodes] for left in nodes]


def pairs_in(line):
    return [(left, right) for at, left in enumerate(line) for right in line[at + 1:]]


def best_row(sheet, order, row):
    check_sheet_order(sheet, order)
    nodes = nodes_to_order(sheet, row)
    sums = sums_of(sheet, order, nodes)
    best = best_order(len(nodes), lambda at, ahead: sum([sums[left][at] for left in boxes_in(ahead)]))
    many = sum([sums[left][right] for left, right in pairs_in(best)])
    floor = sum([min(sums[left][right], sums[right][left]) for left, right in pairs_in(best)])
    return [nodes[at] for at in best], many, floor
