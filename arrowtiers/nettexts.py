"""Nets written down as texts, and read back."""

from arrowtiers.errors import NoText
from arrowtiers.nets import Net, is_word


def show_net(net):
    names = net.names()
    rows = [f"box {name}\n" for name in names]
    for start, end in net.arrows():
        rows.append(f"arrow {names[start]} {names[end]}\n")
    return "".join(rows)


def split_rows(text):
    """The rows of the text, each a list of what stands between its blanks."""
    rows = text.split("\n")
    if rows[-1] != "":
        raise NoText("the last row has no line feed behind it")
    return [row.split(" ") for row in rows[:-1]]


def is_row(parts, head, words):
    return len(parts) == words + 1 and parts[0] == head and all(is_word(part) for part in parts[1:])


def read_arrow(parts, numbers):
    if not is_row(parts, "arrow", 2):
        raise NoText("a row is neither a box ahead of all arrows nor an arrow")
    if parts[1] not in numbers or parts[2] not in numbers:
        raise NoText("an arrow joins what is no box")
    return (numbers[parts[1]], numbers[parts[2]])


def read_net(text):
    rows = split_rows(text)
    boxes = 0
    while boxes < len(rows) and is_row(rows[boxes], "box", 1):
        boxes += 1
    names = [parts[1] for parts in rows[:boxes]]
    # A name that stands twice may have either number: Net refuses the names first.
    numbers = {name: at for at, name in enumerate(names)}
    arrows = [read_arrow(parts, numbers) for parts in rows[boxes:]]
    return Net(names, arrows)
