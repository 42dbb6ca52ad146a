"""Rows: a number for each box, such that each arrow goes from a row to one further down."""

from arrowtiers.errors import Ringed
from arrowtiers.nets import is_number_below
from arrowtiers.rings import ends_then, ring_of_all

MOST_ROWS = 12


def ends_without_ring(net, turned):
    """The ends of the arrows as they go then; refused where a ring is left, as there are no rows then."""
    ends = ends_then(net, turned)
    ring = ring_of_all(ends)
    if ring is not None:
        raise Ringed(ring)
    return ends


def are_rows(rows, boxes):
    return len(rows) == boxes and all(is_number_below(row, MOST_ROWS) for row in rows)


def are_down(rows, ends):
    return all(rows[start] < rows[end] for start, end in ends)


def is_down(net, turned, rows):
    ends = ends_then(net, turned)
    return are_rows(rows, net.many()) and are_down(rows, ends)


def least_rows(boxes, ends):
    rows = [0] * boxes
    # No way has more arrows than there are other boxes, so as many rounds as boxes settle all.
    for times in range(boxes):
        for start, end in ends:
            rows[end] = max(rows[end], rows[start] + 1)
    return rows


def box_above(box, rows, ends):
    """A box in the row just above, from which an arrow goes to this one."""
    above = [start for start, end in ends if end == box and rows[start] + 1 == rows[box]]
    return above[0]


def longest_way(rows, ends):
    backwards = [rows.index(max(rows))]
    while rows[backwards[-1]] > 0:
        backwards.append(box_above(backwards[-1], rows, ends))
    return backwards[::-1]


def fewest_rows(net, turned):
    ends = ends_without_ring(net, turned)
    rows = least_rows(net.many(), ends)
    return rows, longest_way(rows, ends)
