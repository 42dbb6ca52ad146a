"""Drawings: a sheet with an order, a gap and places that keep them."""

from arrowtiers.errors import NoPlaces
from arrowtiers.places import is_kept


class Drawing:
    """A drawing; its lists are copied on the way in and out, so that it never changes."""

    def __init__(self, sheet, order, gap, places):
        if not is_kept(sheet, order, gap, places):
            raise NoPlaces("these are no places, or keep not the order and gap")
        self.own_sheet = sheet
        self.node_lines = [list(line) for line in order]
        self.own_gap = gap
        self.node_places = list(places)

    def sheet(self):
        return self.own_sheet

    def order(self):
        return [list(line) for line in self.node_lines]

    def gap(self):
        return self.own_gap

    def places(self):
        return list(self.node_places)
