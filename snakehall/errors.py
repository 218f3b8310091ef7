"""The refusals of Snakehall."""


class HallError(ValueError):
    """Something that Snakehall refuses."""


class BadRow(HallError):
    """A row that can not stand where it stands; row is its number, from 0."""

    def __init__(self, row):
        super().__init__(f"row {row} can not stand there")
        self.row = row


class BadTree(HallError):
    """A statement that can not stand where it stands; place is its number, from 0."""

    def __init__(self, place):
        super().__init__(f"statement {place} can not stand there")
        self.place = place
