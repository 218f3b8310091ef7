"""The walker, which goes through a program's tree."""

from snakehall.blocks import end_kind
from snakehall.calling import look_for_next
from snakehall.calls import Way
from snakehall.leaving import end_arm, go_way
from snakehall.strides import CHOOSE, OPEN, SHUT, Walk, program_from
from snakehall.walkexprs import choose_side, open_expr, shut_expr
from snakehall.walkrows import begin_row, begin_step, finish_row
from snakehall.world import AROUND, World

# At which place of a try's blocks an arm stands.
ARMS = {"else": -2, "last": -1}


def walked(tree, given, most):
    """What is said, how all ends, the steps, and the beings gone, in a tuple."""
    return Walker(given, most).whole(program_from(tree))


class Walker(World):
    """A world whose calls go through the rows of a tree."""

    def proceed(self, call):
        """Does the next bit of a call."""
        if call.todo:
            word, what = call.todo.pop()
            self.go_on(call, word, what)
            return
        block = call.blocks[-1]
        if block.at < len(block.rows):
            block.at += 1
            begin_row(self, call, block.rows[block.at - 1])
        else:
            self.end_rows(call, block)

    def go_on(self, call, word, what):
        """Goes on with an expression or a statement that was begun."""
        if word == OPEN:
            open_expr(self, call, what)
        elif word == CHOOSE:
            choose_side(self, call, what)
        elif word == SHUT:
            shut_expr(self, call, what)
        else:
            finish_row(self, call, what)

    def end_rows(self, call, block):
        """The rows of the innermost block have come to their end."""
        if block.form == "while":
            begin_step(self, call, block.source)
        elif block.form == "for":
            self.note_step(block.source.number)
            look_for_next(self, call, block)
        elif block.form == "kind":
            name = block.source.tree[1]
            end_kind(self, call, self.scope_for(call, name), name)
        elif block.form == "try":
            end_arm(self, call, block)
        elif len(call.blocks) > 1:
            call.blocks.pop()
        else:
            go_way(self, call, Way("give", None))

    def scope_for(self, call, name):
        """The scope in which a name is sought, set and let go."""
        design = call.doing.source
        scope = call.scope
        while scope is not None:
            if name in design.names:
                return scope
            design = design.around
            scope = scope.parts.get(AROUND)
        return self.program

    def new_call(self, doing, scope, asker):
        """A call that stands ahead of its first row."""
        return Walk(doing, scope, asker)

    def turn(self, call, block, arm):
        """Goes on in an arm of a block; behind it the walk goes on by itself."""
        if arm == "next":
            block.at = len(block.rows)
        elif arm == "rows":
            block.go_to(block.source.inner[0])
        elif arm in ARMS:
            block.go_to(block.source.inner[ARMS[arm]])
        elif arm != "behind":
            block.go_to(block.source.inner[arm + 1])

    def has_arm(self, block, arm):
        """Whether a try has rows behind else, or last words."""
        return bool(block.source.inner[ARMS[arm]])

    def many_excepts(self, block):
        """How many excepts a try has."""
        return len(block.source.tree[2])

    def except_kind(self, call, block, at):
        """The kind that a try's except takes."""
        name = block.source.tree[2][at][0]
        return self.read_kind(self.scope_for(call, name), name)

    def name_error(self, call, block, at):
        """Puts the error that a try's except takes to the name behind as."""
        name = block.source.tree[2][at][1]
        if name is not None:
            self.hall.put(self.scope_for(call, name), name, block.value)

    def name_turn(self, call, block, value):
        """Puts a for's item to its name."""
        name = block.source.tree[1]
        self.hall.put(self.scope_for(call, name), name, value)
