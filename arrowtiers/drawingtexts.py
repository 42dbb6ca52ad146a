"""Drawings written down as texts, and read back."""

from arrowtiers.errors import NoText
from arrowtiers.nets import is_name
from arrowtiers.nettexts import split_rows

BEND = "."
AS_IT_GOES = "-"
TURNED = "^"
FIGURES = "0123456789"


def pieces_by_rows(sheet, places):
    """For each row the pieces that go down from it: tuples of both places and the sign between, in the told order."""
    turned = sheet.turned()
    by_rows = [[] for row in range(sheet.many_rows())]
    for arrow in range(len(sheet.net().arrows())):
        sign = TURNED if arrow in turned else AS_IT_GOES
        nodes = sheet.way(arrow)
        for upper, lower in zip(nodes, nodes[1:]):
            by_rows[sheet.row_of(upper)].append((places[upper], places[lower], sign))
    # Places rise from left to right, and the sign "-" is ahead of "^".
    return [sorted(pieces) for pieces in by_rows]


def show_drawing(drawing):
    sheet = drawing.sheet()
    places = drawing.places()
    names = sheet.net().names()
    labels = names + [BEND] * (sheet.many_nodes() - len(names))
    rows = []
    for line, pieces in zip(drawing.order(), pieces_by_rows(sheet, places)):
        rows.append(["row"] + [f"{places[node]}:{labels[node]}" for node in line])
        rows.append(["down"] + [f"{upper}{sign}{lower}" for upper, lower, sign in pieces])
    # No piece goes down from the last row.
    return "".join([" ".join(parts) + "\n" for parts in rows[:-1]])


def read_place(text):
    """A tuple that is held against others as the number is, however many figures that has."""
    if text == "" or not all(sign in FIGURES for sign in text):
        raise NoText("a place is written in figures")
    if text[0] == "0" and text != "0":
        raise NoText("a place has a figure 0 ahead of another one")
    return (len(text), text)


def read_node(text):
    place, colon, label = text.partition(":")
    if label != BEND and not is_name(label):
        raise NoText("a node is neither a box with a name nor a bend")
    return (read_place(place), label)


def read_piece(text):
    sign = TURNED if TURNED in text else AS_IT_GOES
    upper, between, lower = text.partition(sign)
    return (read_place(upper), read_place(lower), sign)


def check_rising(things):
    for thing, behind in zip(things, things[1:]):
        if not thing < behind:
            raise NoText("the nodes or pieces of a row are not in their order, or two are alike")


def read_parts(parts, head, read_part):
    if parts[0] != head:
        raise NoText(f"a row of the text begins not with {head}")
    return [read_part(part) for part in parts[1:]]


def read_lines(text):
    """The rows with their nodes, and those between them with their pieces."""
    lines = split_rows(text)
    if len(lines) % 2 == 0:
        raise NoText("the text ends not with a row of nodes")
    rows = [read_parts(parts, "row", read_node) for parts in lines[::2]]
    downs = [read_parts(parts, "down", read_piece) for parts in lines[1::2]]
    for nodes in rows:
        check_rising([place for place, label in nodes])
    for pieces in downs:
        check_rising(pieces)
    return rows, downs


def number_nodes(rows):
    """For each row the numbers of its nodes by their places; they are counted from top to bottom."""
    numbers = []
    many = 0
    for nodes in rows:
        numbers.append({place: many + at for at, (place, label) in enumerate(nodes)})
        many += len(nodes)
    return numbers


def join_nodes(rows, downs):
    """The pieces as tuples of the numbers of both nodes and the sign."""
    numbers = number_nodes(rows)
    pieces = []
    for row, down in enumerate(downs):
        for upper, lower, sign in down:
            if upper not in numbers[row] or lower not in numbers[row + 1]:
                raise NoText("a piece ends where no node is")
            pieces.append((numbers[row][upper], numbers[row + 1][lower], sign))
    return pieces


def check_bends(labels, pieces):
    above = [[] for label in labels]
    below = [[] for label in labels]
    for upper, lower, sign in pieces:
        above[lower].append(sign)
        below[upper].append(sign)
    for node, label in enumerate(labels):
        if label == BEND and (len(above[node]) != 1 or above[node] != below[node]):
            raise NoText("a bend has not one piece above and one below that are both turned or both not")


def follow_arrows(labels, pieces):
    """For each arrow the name at its upper end, that at its lower end, and the sign."""
    next_nodes = {upper: lower for upper, lower, sign in pieces}
    followed = []
    for upper, lower, sign in pieces:
        if labels[upper] != BEND:
            end = lower
            while labels[end] == BEND:
                end = next_nodes[end]
            followed.append((labels[upper], labels[end], sign))
    return followed


def as_in_net(upper, lower, sign):
    return (lower, upper) if sign == TURNED else (upper, lower)


def check_unlike(things):
    if len(set(things)) < len(things):
        raise NoText("two boxes have one name, or two arrows are alike")


def read_drawing(text):
    rows, downs = read_lines(text)
    if all(label == BEND for place, label in rows[-1]):
        raise NoText("the last row has no box")
    labels = [label for nodes in rows for place, label in nodes]
    pieces = join_nodes(rows, downs)
    check_bends(labels, pieces)
    names = [label for label in labels if label != BEND]
    followed = follow_arrows(labels, pieces)
    arrows = [as_in_net(upper, lower, sign) for upper, lower, sign in followed]
    turned = [as_in_net(upper, lower, sign) for upper, lower, sign in followed if sign == TURNED]
    check_unlike(names)
    check_unlike(arrows)
    return names, sorted(arrows), sorted(turned)
