"""Nets: boxes with names, joined by arrows, both numbered from 0 on."""

from arrowtiers.errors import NoNet, NoOrder

LETTERS = "abcdefghijklmnopqrstuvwxyz"
LONGEST_NAME = 8
MOST_BOXES = 12
MOST_ARROWS = 24


def is_whole(thing):
    # Python counts True and False as numbers; the document does not.
    return isinstance(thing, int) and not isinstance(thing, bool)


def is_number_below(thing, many):
    return is_whole(thing) and 0 <= thing < many


def is_word(text):
    return text != "" and all(sign in LETTERS for sign in text)


def is_name(thing):
    return isinstance(thing, str) and len(thing) <= LONGEST_NAME and is_word(thing)


def is_arrow(thing, boxes):
    if not isinstance(thing, tuple) or len(thing) != 2:
        return False
    start, end = thing
    return is_number_below(start, boxes) and is_number_below(end, boxes) and start != end


def check_names(names):
    if not 1 <= len(names) <= MOST_BOXES:
        raise NoNet(("names", len(names)))
    seen = set()
    for at, name in enumerate(names):
        if not is_name(name) or name in seen:
            raise NoNet(("name", at))
        seen.add(name)


def check_arrows(arrows, boxes):
    if len(arrows) > MOST_ARROWS:
        raise NoNet(("arrows", len(arrows)))
    seen = set()
    for at, arrow in enumerate(arrows):
        if not is_arrow(arrow, boxes) or arrow in seen:
            raise NoNet(("arrow", at))
        seen.add(arrow)


def check_order(order, boxes):
    seen = set()
    for box in order:
        if not is_number_below(box, boxes) or box in seen:
            raise NoOrder("an order has numbers of boxes alone, and none twice")
        seen.add(box)
    if len(seen) < boxes:
        raise NoOrder("an order has the numbers of all boxes")


class Net:
    """A net; its lists are copied on the way in and out, so that it never changes."""

    def __init__(self, names, arrows):
        check_names(names)
        check_arrows(arrows, len(names))
        self.name_list = list(names)
        self.arrow_list = list(arrows)

    def names(self):
        return list(self.name_list)

    def arrows(self):
        return list(self.arrow_list)

    def many(self):
        return len(self.name_list)

    def going(self, box):
        return [at for at, arrow in enumerate(self.arrow_list) if arrow[0] == box]

    def coming(self, box):
        return [at for at, arrow in enumerate(self.arrow_list) if arrow[1] == box]


def renumbered(net, order):
    """The net in which box order[k] has become box k."""
    check_order(order, net.many())
    names = net.names()
    becomes = {box: at for at, box in enumerate(order)}
    arrows = [(becomes[start], becomes[end]) for start, end in net.arrows()]
    return Net([names[box] for box in order], arrows)
