"""Sheets: a net dealt to rows, with the bends of its arrows and the pieces between them."""

from arrowtiers.errors import NoArrow, NoNode, NoOrder, NoRow, NoRows
from arrowtiers.nets import is_number_below, is_whole
from arrowtiers.rows import are_down, are_rows, ends_without_ring


class Sheet:
    """A sheet; its lists are copied on the way in and out, so that it never changes."""

    def __init__(self, net, turned, rows):
        ends = ends_without_ring(net, turned)
        if not are_rows(rows, net.many()) or not are_down(rows, ends):
            raise NoRows("these are no rows, or not down")
        self.own_net = net
        self.turned_list = sorted(turned)
        self.node_rows = list(rows)
        self.node_arrows = [None] * net.many()
        self.arrow_ways = []
        for arrow, (start, end) in enumerate(ends):
            between = list(range(rows[start] + 1, rows[end]))
            bends = list(range(len(self.node_rows), len(self.node_rows) + len(between)))
            self.node_rows += between
            self.node_arrows += [arrow] * len(between)
            self.arrow_ways.append([start] + bends + [end])

    def net(self):
        return self.own_net

    def turned(self):
        return list(self.turned_list)

    def rows(self):
        return self.node_rows[:self.own_net.many()]

    def many_rows(self):
        return max(self.node_rows) + 1

    def many_nodes(self):
        return len(self.node_rows)

    def row_of(self, node):
        self.check_node(node)
        return self.node_rows[node]

    def nodes_in(self, row):
        if not is_number_below(row, self.many_rows()):
            raise NoRow(f"there is no row {row}")
        return [node for node, its_row in enumerate(self.node_rows) if its_row == row]

    def pieces(self):
        return [piece for nodes in self.arrow_ways for piece in zip(nodes, nodes[1:])]

    def way(self, arrow):
        if not is_number_below(arrow, len(self.arrow_ways)):
            raise NoArrow(arrow)
        return list(self.arrow_ways[arrow])

    def arrow_of(self, node):
        self.check_node(node)
        return self.node_arrows[node]

    def check_node(self, node):
        if not is_number_below(node, self.many_nodes()):
            raise NoNode(f"there is no node {node}")


def first_order(sheet):
    return [sheet.nodes_in(row) for row in range(sheet.many_rows())]


def check_sheet_order(sheet, order):
    if len(order) != sheet.many_rows():
        raise NoOrder("an order of a sheet has all its rows, and no more")
    for row, line in enumerate(order):
        if not all(is_whole(node) for node in line) or sorted(line) != sheet.nodes_in(row):
            raise NoOrder(f"row {row} of an order has all nodes of that row, each once, and no others")
