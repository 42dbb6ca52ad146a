"""Places: how far to the right each node stands, in keeping with an order and a gap."""

from arrowtiers.errors import NoNumber, Twisted
from arrowtiers.nets import is_whole
from arrowtiers.rings import check_arrow_numbers
from arrowtiers.sheets import check_sheet_order

MOST_GAP = 100
BEND_WIDTH = 1


def check_order_and_gap(sheet, order, gap):
    check_sheet_order(sheet, order)
    if not is_whole(gap) or not 1 <= gap <= MOST_GAP:
        raise NoNumber(f"a gap is from 1 to {MOST_GAP}")


def widths_of(sheet):
    names = sheet.net().names()
    return [len(name) for name in names] + [BEND_WIDTH] * (sheet.many_nodes() - len(names))


def neighbours(sheet, order, gap):
    """Tuples of a node, the next one in its row, and how far apart their places are at least."""
    widths = widths_of(sheet)
    return [(node, behind, widths[node] + gap) for line in order for node, behind in zip(line, line[1:])]


def are_places(places, nodes):
    return len(places) == nodes and all(is_whole(place) and place >= 0 for place in places)


def is_kept(sheet, order, gap, places):
    check_order_and_gap(sheet, order, gap)
    if not are_places(places, sheet.many_nodes()):
        return False
    steps = neighbours(sheet, order, gap)
    return all(places[node] + apart <= places[behind] for node, behind, apart in steps)


def leaders_of(sheet, straight):
    """For each node the one whose place it has: of an arrow that shall run straight the first bend, else itself."""
    leaders = list(range(sheet.many_nodes()))
    for arrow in straight:
        bends = sheet.way(arrow)[1:-1]
        for bend in bends:
            leaders[bend] = bends[0]
    return leaders


def push(places, steps):
    """Moves nodes that are too near the one ahead of them; tells whether any was."""
    moved = False
    for node, behind, apart in steps:
        if places[behind] < places[node] + apart:
            places[behind] = places[node] + apart
            moved = True
    return moved


def straight_places(sheet, order, gap, straight):
    """The least places, or None if there are none."""
    leaders = leaders_of(sheet, straight)
    steps = [(leaders[node], leaders[behind], apart) for node, behind, apart in neighbours(sheet, order, gap)]
    places = [0] * sheet.many_nodes()
    # Unless some nodes push one another in a ring, no push goes on for more rounds than there are nodes.
    for times in range(sheet.many_nodes()):
        if not push(places, steps):
            return [places[leader] for leader in leaders]
    return None


def least_places(sheet, order, gap, straight):
    check_order_and_gap(sheet, order, gap)
    check_arrow_numbers(sheet.net(), straight)
    places = straight_places(sheet, order, gap, straight)
    if places is None:
        raise Twisted("these arrows cannot all run straight")
    return places


def most_straight(sheet, order, gap):
    check_order_and_gap(sheet, order, gap)
    taken = []
    for arrow in range(len(sheet.net().arrows())):
        if straight_places(sheet, order, gap, taken + [arrow]) is not None:
            taken.append(arrow)
    return taken
