"""The refusals: each sort of them is a class of its own."""


class DrawError(ValueError):
    """Any refusal."""


class NoNet(DrawError):
    """Names and arrows that make no net; fault says what is wrong first."""

    def __init__(self, fault):
        super().__init__(f"no net: {fault}")
        self.fault = fault


class NoOrder(DrawError):
    """What is handed in as an order is none."""


class NoText(DrawError):
    """A text that has not the form asked for."""


class NoArrow(DrawError):
    """A number that is no arrow's, or stands twice; arrow is that number."""

    def __init__(self, arrow):
        super().__init__(f"no arrow: {arrow}")
        self.arrow = arrow


class Ringed(DrawError):
    """Some ring is left; ring is one such, a list of numbers of arrows."""

    def __init__(self, ring):
        super().__init__(f"a ring is left: {ring}")
        # The list stays the caller's, who may alter it later.
        self.ring = list(ring) if isinstance(ring, list) else ring


class NoRows(DrawError):
    """What is handed in as rows is none, or the rows are not down."""


class NoWidth(DrawError):
    """A width out of bounds."""


class NoRow(DrawError):
    """There is no such row."""


class NoNode(DrawError):
    """There is no such node."""


class TooMany(DrawError):
    """A row has too many nodes to be put best."""


class NoNumber(DrawError):
    """A number out of bounds."""


class Twisted(DrawError):
    """The told arrows cannot all run straight together."""


class NoPlaces(DrawError):
    """What is handed in as places is none, or keeps not the order and gap."""


class NoName(DrawError):
    """A name that is none, is taken already, or is no box's."""
