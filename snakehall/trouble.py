"""What breaks off what is being done: an error that comes by itself, and the end of the steps."""


class Trouble(Exception):
    """An error comes by itself; title is the one of its first kind."""

    def __init__(self, title):
        super().__init__(title)
        self.title = title


class Going(Exception):
    """A step more than most is due."""
