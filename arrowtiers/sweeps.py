"""Sweeps down and up: each row put in the order of its means by the row beside it."""

from arrowtiers.crossings import crossings, nodes_above, nodes_below, places_in
from arrowtiers.errors import NoNumber
from arrowtiers.nets import is_number_below
from arrowtiers.sheets import check_sheet_order

MOST_TURNS = 20


def mean_parts(line, joined, beside):
    """For each node of the row a sum and by how many it is to be divided, for its mean."""
    places = places_in([beside])
    parts = []
    for at, node in enumerate(line):
        ends = [places[end] for end in joined[node]]
        parts.append((sum(ends), len(ends)) if ends else (at, 1))
    return parts


def by_means(line, joined, beside):
    parts = mean_parts(line, joined, beside)
    # All means times one and the same number are whole ones, so that they are held against one another exactly.
    times = 1
    for total, many in parts:
        times *= many
    means = [total * (times // many) for total, many in parts]
    # The place comes second, so that nodes of like means stay as they stood.
    return [line[at] for mean, at in sorted([(mean, at) for at, mean in enumerate(means)])]


def sweep(order, joined):
    """The first row as it stands, then each one by the row ahead of it, as that stands by then."""
    lines = [list(order[0])]
    for line in order[1:]:
        lines.append(by_means(line, joined, lines[-1]))
    return lines


def all_sweeps(sheet, order, turns):
    """The order itself, and those behind each sweep."""
    above = nodes_above(sheet)
    below = nodes_below(sheet)
    orders = [[list(line) for line in order]]
    for turn in range(turns):
        if turn & 1:
            orders.append(sweep(orders[-1][::-1], below)[::-1])
        else:
            orders.append(sweep(orders[-1], above))
    return orders


def swept(sheet, order, turns):
    check_sheet_order(sheet, order)
    if not is_number_below(turns, MOST_TURNS + 1):
        raise NoNumber(f"turns are from 0 to {MOST_TURNS}")
    orders = all_sweeps(sheet, order, turns)
    counts = [crossings(sheet, one) for one in orders]
    return orders[counts.index(min(counts))], counts
