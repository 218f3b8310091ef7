"""Calls: what they do and hold, the blocks in which they stand, and the ways out of these."""

from snakehall.hall import Held
from snakehall.values import Named

# How many calls are there at once at the most, the program itself among them.
MOST_CALLS = 12


class Doing(Named):
    """The own of a deed: its name and parameters, whether it hands out, in which kind's rows it stands, and its rows.

    The kind is None outside of a kind's rows, and it is not held. What source is, is the matter of who runs the rows.
    """

    def __init__(self, title, given, hands, kind, source):
        super().__init__(title)
        self.given = given
        self.hands = hands
        self.kind = kind
        self.source = source


class Way:
    """A way out of blocks: "break", "next", "give", "error", "left" of a loop, or "on", behind a try that ends."""

    def __init__(self, form, value):
        self.form = form
        self.value = value


class Block:
    """Rows within others: "rows", "while", "for", "kind" or "try", and what is held until they are left.

    A for holds what it goes over, a kind's rows the kind; a try holds in its arm "except" the error, in its arm "last"
    the answer or error of the way that goes on behind it.
    """

    def __init__(self, form, source):
        self.form = form
        self.source = source
        self.value = None
        self.arm = "first"
        self.way = None
        self.turns = 0
        self.first_keys = []


class Call(Held):
    """A call, or a loop, which is a call whenever it goes.

    asker tells who asked: "program", "deed", "begin", "end", "pull", "for", or "left" of a loop that is let go. state
    is "goes", "waits" or "over".
    """

    def __init__(self, doing, scope, asker):
        super().__init__([])
        self.title = doing.title
        self.doing = doing
        self.scope = scope
        self.asker = asker
        self.state = "waits"
        self.basket = []
        self.stack = []
        self.blocks = []

    def held(self):
        """The list of all that the call holds."""
        return [*self.basket, *self.kept()]

    def kept(self):
        """What is held from statement to statement, in the order in which it would be loosed."""
        return [block.value for block in reversed(self.blocks)] + [self.scope]

    def popped(self, many):
        """Takes so many values off the stack, and tells them in the order in which they were put there."""
        at = len(self.stack) - many
        values = self.stack[at:]
        del self.stack[at:]
        return values

    def forget(self):
        """What was begun of a statement is not gone on with."""
        self.stack.clear()
