"""The pairs of pieces that cross in an order of a sheet."""

from arrowtiers.errors import NoNode, NoRow
from arrowtiers.sheets import check_sheet_order


def places_in(order):
    """For each node how many stand to the left of it in its row."""
    return {node: at for line in order for at, node in enumerate(line)}


def pieces_below(sheet, order):
    """For each row the pieces that go down from it: tuples of the number and the places of both ends."""
    places = places_in(order)
    below = [[] for line in order]
    for number, (upper, lower) in enumerate(sheet.pieces()):
        below[sheet.row_of(upper)].append((number, places[upper], places[lower]))
    return below


def crossing_pairs(sheet, order):
    check_sheet_order(sheet, order)
    pairs = []
    for between in pieces_below(sheet, order):
        for at, (piece, upper, lower) in enumerate(between):
            # The pieces come by rising numbers, so the later one of a pair has the greater number.
            for later, later_upper, later_lower in between[at + 1:]:
                if (upper - later_upper) * (lower - later_lower) < 0:
                    pairs.append((piece, later))
    return sorted(pairs)


def crossings(sheet, order):
    return len(crossing_pairs(sheet, order))


def nodes_above(sheet):
    """For each node the upper ends of the pieces that come to it."""
    above = [[] for node in range(sheet.many_nodes())]
    for upper, lower in sheet.pieces():
        above[lower].append(upper)
    return above


def nodes_below(sheet):
    """For each node the lower ends of the pieces that go from it."""
    below = [[] for node in range(sheet.many_nodes())]
    for upper, lower in sheet.pieces():
        below[upper].append(lower)
    return below


def crossed(left, right, places):
    """How many pieces of two nodes of a row cross: the ends beside that row of the left one's and the right one's."""
    return len([1 for one in left for other in right if places[one] > places[other]])


def check_two_nodes(sheet, u, v):
    if sheet.row_of(u) != sheet.row_of(v) or u == v:
        raise NoNode("these are not two nodes of one row")
    if sheet.row_of(u) == 0:
        raise NoRow("there is no row above the first one")


def sum_of(sheet, order, u, v):
    check_sheet_order(sheet, order)
    check_two_nodes(sheet, u, v)
    above = nodes_above(sheet)
    return crossed(above[u], above[v], places_in(order))
