"""Sets of boxes, or of other things that are numbered from 0 on, as whole numbers: bit k stands for number k."""


def bit_counts(many):
    """For each set of so many boxes how many boxes are in it."""
    counts = [0]
    for bits in range(1, 1 << many):
        counts.append(counts[bits >> 1] + (bits & 1))
    return counts


def partner_bits(many, pairs):
    """For each box the set of those that stand behind it in a pair."""
    partners = [0] * many
    for box, other in pairs:
        partners[box] |= 1 << other
    return partners


def boxes_in(bits):
    return [box for box in range(bits.bit_length()) if (bits >> box) & 1]


def best_lasts(many, cost_behind):
    """For each set of boxes that stand ahead of all others, the one that should be the last of them.

    How those ahead of it stand is settled by the smaller set, so each set is looked at once.
    """
    costs = [0]
    lasts = [None]
    for front in range(1, 1 << many):
        choices = []
        for box in boxes_in(front):
            ahead = front ^ (1 << box)
            choices.append((costs[ahead] + cost_behind(box, ahead), box))
        cost, last = min(choices)
        costs.append(cost)
        lasts.append(last)
    return lasts


def best_order(many, cost_behind):
    """An order of least cost, where cost_behind(box, ahead) is what a box costs behind the set of those ahead of it."""
    lasts = best_lasts(many, cost_behind)
    front = (1 << many) - 1
    backwards = []
    while front:
        backwards.append(lasts[front])
        front ^= 1 << lasts[front]
    return backwards[::-1]
