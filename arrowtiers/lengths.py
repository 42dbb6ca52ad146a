"""Rows that make the arrows as short together as can be, and a flow that proves it."""

from arrowtiers.rows import ends_without_ring, least_rows


def coming_less_going(boxes, ends):
    lacks = [0] * boxes
    for start, end in ends:
        lacks[end] += 1
        lacks[start] -= 1
    return lacks


def steps_from(box, ends, rows, flow):
    """Where one more may be sent from the box: tuples of the box there, the arrow, and the change of its flow."""
    steps = []
    for arrow, (start, end) in enumerate(ends):
        if start == box and rows[end] - rows[start] == 1:
            steps.append((end, arrow, 1))
        if end == box and flow[arrow] > 0:
            steps.append((start, arrow, -1))
    return steps


def reached_from(senders, ends, rows, flow):
    """Each box that something can be sent to, with the last step to it: whence, by which arrow, by what change."""
    came_by = {box: None for box in senders}
    waiting = list(senders)
    while waiting:
        box = waiting.pop()
        for other, arrow, change in steps_from(box, ends, rows, flow):
            if other not in came_by:
                came_by[other] = (box, arrow, change)
                waiting.append(other)
    return came_by


def send_one(getter, came_by, flow, lacks):
    lacks[getter] -= 1
    box = getter
    while came_by[box] is not None:
        box, arrow, change = came_by[box]
        flow[arrow] += change
    lacks[box] += 1


def shorten(ends, rows, flow, lacks):
    """Alters rows and flow until each box gets what it lacks.

    Only arrows of length 1 ever have a flow, as boxes go down only together with all that they can send to or take
    back from; so in the end the flow comes to just the lengths together. The rows stay in bounds: of boxes that
    arrows join, the one that lacks something to the last never goes down, nor do those of a longest way to it, so
    row 0 is kept; and a row left empty between them would make the arrows longer.
    """
    while any(lacks):
        senders = [box for box, lack in enumerate(lacks) if lack < 0]
        came_by = reached_from(senders, ends, rows, flow)
        getters = [box for box in came_by if lacks[box] > 0]
        if getters:
            send_one(getters[0], came_by, flow, lacks)
        else:
            for box in came_by:
                rows[box] += 1


def shortest_rows(net, turned):
    ends = ends_without_ring(net, turned)
    rows = least_rows(net.many(), ends)
    flow = [0] * len(ends)
    shorten(ends, rows, flow, coming_less_going(net.many(), ends))
    return rows, flow
