"""Boxes put into a drawing and taken out of it, with all else left where it was."""

from arrowtiers.drawings import Drawing
from arrowtiers.errors import NoName, NoNumber
from arrowtiers.nets import Net, is_name, is_number_below
from arrowtiers.places import neighbours, push
from arrowtiers.sheets import Sheet


def new_numbers(sheet, new_sheet, boxes, arrows):
    """The new numbers of the nodes that stay; boxes and arrows are lists of the elder numbers of those that stay."""
    numbers = {elder: box for box, elder in enumerate(boxes)}
    for arrow, elder_arrow in enumerate(arrows):
        for elder, node in zip(sheet.way(elder_arrow), new_sheet.way(arrow)):
            numbers[elder] = node
    return numbers


def new_order(drawing, new_sheet, numbers):
    # Rows at the end may be left without a box, and then the new sheet has them no more.
    lines = drawing.order()[:new_sheet.many_rows()]
    return [[numbers[node] for node in line if node in numbers] for line in lines]


def new_places(drawing, new_sheet, numbers):
    elder_places = drawing.places()
    places = [0] * new_sheet.many_nodes()
    for elder, node in numbers.items():
        places[node] = elder_places[elder]
    return places


def check_new_box(sheet, name, row, at):
    if not is_name(name) or name in sheet.net().names():
        raise NoName(f"no name for a new box: {name}")
    if not is_number_below(at, len(sheet.nodes_in(row)) + 1):
        raise NoNumber(f"row {row} has no such place in its order")


def put_in(drawing, name, row, at):
    sheet = drawing.sheet()
    check_new_box(sheet, name, row, at)
    names = sheet.net().names()
    arrows = sheet.net().arrows()
    box = len(names)
    new_sheet = Sheet(Net(names + [name], arrows), sheet.turned(), sheet.rows() + [row])
    numbers = new_numbers(sheet, new_sheet, list(range(box)), list(range(len(arrows))))
    order = new_order(drawing, new_sheet, numbers)
    order[row].insert(at, box)
    places = new_places(drawing, new_sheet, numbers)
    before = list(places)
    # The new box is at 0 as yet, so one push along the rows moves it and those behind it as far as they must.
    push(places, neighbours(new_sheet, order, drawing.gap()))
    moved = [names[node] for node in order[row] if node < box and places[node] > before[node]]
    return Drawing(new_sheet, order, drawing.gap(), places), moved


def without_box(sheet, gone):
    """The sheet without this box, with the elder numbers of the boxes and of the arrows that stay."""
    names = sheet.net().names()
    rows = sheet.rows()
    turned = sheet.turned()
    elder_arrows = sheet.net().arrows()
    boxes = [box for box in range(len(names)) if box != gone]
    arrows = [arrow for arrow, ends in enumerate(elder_arrows) if gone not in ends]
    new_arrows = [(boxes.index(start), boxes.index(end)) for start, end in elder_arrows if gone not in (start, end)]
    net = Net([names[box] for box in boxes], new_arrows)
    still_turned = [at for at, arrow in enumerate(arrows) if arrow in turned]
    return Sheet(net, still_turned, [rows[box] for box in boxes]), boxes, arrows


def taken_out(drawing, name):
    sheet = drawing.sheet()
    names = sheet.net().names()
    if name not in names:
        raise NoName(f"no box has this name: {name}")
    new_sheet, boxes, arrows = without_box(sheet, names.index(name))
    numbers = new_numbers(sheet, new_sheet, boxes, arrows)
    order = new_order(drawing, new_sheet, numbers)
    return Drawing(new_sheet, order, drawing.gap(), new_places(drawing, new_sheet, numbers))
