"""Arrows as they go once some are turned, and the rings that they make."""

from arrowtiers.errors import NoArrow
from arrowtiers.nets import is_number_below


def check_arrow_numbers(net, numbers):
    many = len(net.arrows())
    seen = set()
    for number in numbers:
        if not is_number_below(number, many) or number in seen:
            raise NoArrow(number)
        seen.add(number)


def ends_then(net, turned):
    """For each arrow the box from which it goes and that to which it goes, with the told ones turned."""
    check_arrow_numbers(net, turned)
    return [(end, start) if at in turned else (start, end) for at, (start, end) in enumerate(net.arrows())]


def without_dead_ends(ends, left):
    """Those of the arrows left behind each of which there is always another one."""
    kept = left
    while True:
        starts = {ends[arrow][0]: True for arrow in kept}
        going_on = [arrow for arrow in kept if ends[arrow][1] in starts]
        if len(going_on) == len(kept):
            return kept
        kept = going_on


def least_first(ring):
    at = ring.index(min(ring))
    return ring[at:] + ring[:at]


def ring_among(ends, left):
    """A ring of some of the arrows left, or None."""
    kept = without_dead_ends(ends, left)
    if not kept:
        return None
    # One arrow from each box, so that the walk leaves no box by two of them.
    next_arrow = {ends[arrow][0]: arrow for arrow in kept}
    walk = []
    arrow = next_arrow[ends[kept[0]][0]]
    while arrow not in walk:
        walk.append(arrow)
        arrow = next_arrow[ends[arrow][1]]
    return least_first(walk[walk.index(arrow):])


def ring_of_all(ends):
    return ring_among(ends, list(range(len(ends))))


def ring_left(net, turned):
    return ring_of_all(ends_then(net, turned))


def rings_apart(net):
    ends = net.arrows()
    left = list(range(len(ends)))
    rings = []
    ring = ring_among(ends, left)
    while ring is not None:
        rings.append(ring)
        left = [arrow for arrow in left if arrow not in ring]
        ring = ring_among(ends, left)
    return sorted(rings)
