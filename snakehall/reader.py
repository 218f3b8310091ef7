"""A reader of pieces, one behind the other."""

from snakehall.errors import BadRow

MOST_BRACKETS = 8


class Reader:
    """Goes through the pieces of one row, and minds how many brackets lie within one another."""

    def __init__(self, pieces):
        self.pieces = list(pieces)
        self.at = 0
        self.depth = 0

    def seen(self):
        """The piece that comes, or one that is like no other where none comes."""
        if self.is_done():
            return ("end", "")
        return self.pieces[self.at]

    def step(self):
        """Goes past the piece that comes."""
        self.at += 1

    def comes(self, word):
        """Whether this word or sign comes; a text of the same letters is neither."""
        sort, told = self.seen()
        return sort in ("word", "sign") and told == word

    def need(self, word):
        """Goes past this word or sign, refused where it does not come."""
        if not self.comes(word):
            raise BadRow(0)
        self.step()

    def need_name(self):
        """Goes past a name and tells it, refused where none comes."""
        sort, told = self.seen()
        if sort != "name":
            raise BadRow(0)
        self.step()
        return told

    def is_done(self):
        """Whether no piece comes any more."""
        return self.at == len(self.pieces)

    def need_end(self):
        """Refused where a piece comes still."""
        if not self.is_done():
            raise BadRow(0)

    def enter(self, bracket):
        """Goes past a bracket that opens, refused where it lies too deep."""
        self.need(bracket)
        if self.depth == MOST_BRACKETS:
            raise BadRow(0)
        self.depth += 1

    def leave(self, bracket):
        """Goes past the bracket that closes the one entered last."""
        self.need(bracket)
        self.depth -= 1
