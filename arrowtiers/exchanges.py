"""Neighbours in a row exchanged for as long as that leaves fewer crossings."""

from arrowtiers.crossings import crossed, nodes_above, nodes_below, places_in
from arrowtiers.sheets import check_sheet_order


def is_gain(left, right, beside, places):
    """Whether fewer pieces cross once the two neighbours are exchanged.

    Only pieces of both nodes are looked at, as all others meet them on the same side as before.
    """
    before = sum([crossed(ends[left], ends[right], places) for ends in beside])
    behind = sum([crossed(ends[right], ends[left], places) for ends in beside])
    return behind < before


def exchange(line, at, places):
    left, right = line[at], line[at + 1]
    line[at], line[at + 1] = right, left
    places[left], places[right] = at + 1, at


def go_through(lines, beside, places):
    """Makes each exchange that leaves fewer crossings, once along all rows, and tells them."""
    deeds = []
    for row, line in enumerate(lines):
        for at in range(len(line) - 1):
            if is_gain(line[at], line[at + 1], beside, places):
                exchange(line, at, places)
                deeds.append((row, at))
    return deeds


def exchanged(sheet, order):
    check_sheet_order(sheet, order)
    lines = [list(line) for line in order]
    beside = (nodes_above(sheet), nodes_below(sheet))
    places = places_in(lines)
    deeds = []
    more = go_through(lines, beside, places)
    # Each round with an exchange has fewer crossings behind it, so some round has none.
    while more:
        deeds += more
        more = go_through(lines, beside, places)
    return lines, deeds
