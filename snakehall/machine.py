"""The machine, which runs the rows that were made of a tree."""

from snakehall.calls import Call
from snakehall.coding import PROGRAM
from snakehall.machinerows import run_row
from snakehall.world import AROUND, World


def ran(codes, given, most):
    """What is said, how all ends, the steps, and the beings gone, in a tuple."""
    return Machine(codes, given, most).whole(0)


def met(codes, given, most):
    """The list of the pairs of the code that is run and the statement's number, one for each step."""
    machine = Machine(codes, given, most)
    machine.whole(0)
    return list(machine.places)


class Frame(Call):
    """A call that is run: its code's rows, and the number of the next one."""

    def __init__(self, doing, scope, asker, rows):
        super().__init__(doing, scope, asker)
        self.rows = rows
        self.at = 0


class Machine(World):
    """A world whose calls are frames; a block's source is the row by which it began."""

    def __init__(self, codes, given, most):
        super().__init__(given, most)
        self.codes = list(codes)
        self.places = []

    def proceed(self, call):
        """Does the next row of a call."""
        row = call.rows[call.at]
        call.at += 1
        run_row(self, call, row)

    def note_step(self, number):
        """A statement's step is due."""
        super().note_step(number)
        self.places.append((self.calls[-1].doing.source, number))

    def scope_at(self, call, hops):
        """The scope so many scopes further out than a call's own one, or the program's names."""
        if hops == PROGRAM:
            return self.program
        scope = call.scope
        for hop in range(hops):
            scope = scope.parts[AROUND]
        return scope

    def new_call(self, doing, scope, asker):
        """A call that stands ahead of its first row."""
        return Frame(doing, scope, asker, self.codes[doing.source][3])

    def turn(self, call, block, arm):
        """Goes on in an arm of a block, or behind it."""
        source = block.source
        if arm == "behind":
            call.at = source[-1]
        elif arm == "next":
            call.at = source[-2]
        elif arm == "rows":
            # The rows stand behind the look for a next item.
            call.at = source[-2] + 1
        elif arm in ("else", "last"):
            call.at = arm_of(block, arm)
        else:
            call.at = source[1][arm][4]

    def has_arm(self, block, arm):
        """Whether a try has rows behind else, or last words."""
        return arm_of(block, arm) is not None

    def many_excepts(self, block):
        """How many excepts a try has."""
        return len(block.source[1])

    def except_kind(self, call, block, at):
        """The kind that a try's except takes."""
        name, hops = block.source[1][at][:2]
        return self.read_kind(self.scope_at(call, hops), name)

    def name_error(self, call, block, at):
        """Puts the error that a try's except takes to the name behind as."""
        name, hops = block.source[1][at][2:4]
        if name is not None:
            self.hall.put(self.scope_at(call, hops), name, block.value)

    def name_turn(self, call, block, value):
        """Puts a for's item to its name."""
        name, hops = block.source[1:3]
        self.hall.put(self.scope_at(call, hops), name, value)


def arm_of(block, arm):
    """Where the rows of a try's else or of its last words begin, None where there are none."""
    return block.source[2] if arm == "else" else block.source[3]
