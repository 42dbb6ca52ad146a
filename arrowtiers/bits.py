"""Sets of boxes as whole numbers: bit k stands for box k."""


def bit_counts(many):
    """For each set of so many boxes how many boxes are in it."""
    counts = [0]
    for bits in range(1, 1 << many):
        counts.append(counts[bits >> 1] + (bits & 1))
    return counts


def partner_bits(many, pairs):
    """For each box the set of those that stand behind it in a pair."""
    partners = [0] * many
    for box, other in pairs:
        partners[box] |= 1 << other
    return partners


def boxes_in(bits):
    return [box for box in range(bits.bit_length()) if (bits >> box) & 1]
