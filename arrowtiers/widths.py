"""Rows of a told width, as few as can be."""

from arrowtiers.bits import boxes_in, partner_bits
from arrowtiers.errors import NoWidth
from arrowtiers.rows import ends_without_ring

WIDEST = 12


def free_boxes(done, before):
    """The boxes that may stand in the row below those done: all that goes to them is done."""
    return [box for box, needs in enumerate(before) if not (done >> box) & 1 and (needs & done) == needs]


def choices_of(boxes, size):
    """All sets of so many of the boxes."""
    by_size = [[0]] + [[] for more in range(size)]
    for box in boxes:
        for many in range(size, 0, -1):
            by_size[many] += [bits | (1 << box) for bits in by_size[many - 1]]
    return by_size[size]


def next_sets(done, before, width):
    """What may be done with one row more.

    A row takes all it has room for: a box taken up from a row below it never makes more rows.
    """
    free = free_boxes(done, before)
    return [done | chosen for chosen in choices_of(free, min(width, len(free)))]


def with_one_row_more(older, came_from, before, width):
    """The sets that no fewer rows fill; each is noted in came_from, so that it is looked at once."""
    newest = []
    for done in older:
        for more in next_sets(done, before, width):
            if more not in came_from:
                came_from[more] = done
                newest.append(more)
    return newest


def fill_rows(before, width):
    """For each set of boxes that fill some rows, as few as any, the set that is there without the last of these."""
    everything = (1 << len(before)) - 1
    came_from = {0: None}
    newest = [0]
    while everything not in came_from:
        newest = with_one_row_more(newest, came_from, before, width)
    return came_from


def lines_of(came_from, done):
    """The boxes of each row, from the first to the last."""
    backwards = []
    while done:
        backwards.append(boxes_in(done ^ came_from[done]))
        done = came_from[done]
    return backwards[::-1]


def rows_within(net, turned, width):
    ends = ends_without_ring(net, turned)
    if not 1 <= width <= WIDEST:
        raise NoWidth("a width is from 1 to 12")
    many = net.many()
    before = partner_bits(many, [(end, start) for start, end in ends])
    rows = [0] * many
    for row, line in enumerate(lines_of(fill_rows(before, width), (1 << many) - 1)):
        for box in line:
            rows[box] = row
    return rows
