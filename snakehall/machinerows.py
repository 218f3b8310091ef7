"""What the machine does for the words of its rows that the walker does not have."""

from snakehall.blocks import begin_for, begin_kind, come_to_elder, decide, drop_name, end_kind, set_name
from snakehall.calling import look_for_next
from snakehall.calls import Block, Doing, Way
from snakehall.doing import do_row, is_doing
from snakehall.leaving import end_arm, go_way, leave_block
from snakehall.values import is_so


def run_step(machine, call, row):
    """A step is due."""
    machine.note_step(row[1])


def run_name(machine, call, row):
    """A name is read."""
    machine.come_to(call, machine.read_name(machine.scope_at(call, row[2]), row[1]))


def run_pass_and(machine, call, row):
    """The second side of an and is passed over where the first one is not so."""
    if is_so(call.stack[-1]):
        call.stack.pop()
    else:
        call.at = row[1]


def run_pass_or(machine, call, row):
    """The second side of an or is passed over where the first one is so."""
    if is_so(call.stack[-1]):
        call.at = row[1]
    else:
        call.stack.pop()


def run_set(machine, call, row):
    """A name is set."""
    set_name(machine, call, machine.scope_at(call, row[2]), row[1])


def run_setpart(machine, call, row):
    """A part is set of the kind whose rows are done."""
    set_name(machine, call, call.blocks[-1].value, row[1])


def run_drop(machine, call, row):
    """A name is let go."""
    drop_name(machine, machine.scope_at(call, row[2]), row[1])


def run_jump(machine, call, row):
    """Goes on elsewhere."""
    call.at = row[1]


def run_unless(machine, call, row):
    """Goes on elsewhere, unless the value is so."""
    if not decide(machine, call):
        call.at = row[1]


def run_while(machine, call, row):
    """A while begins."""
    call.blocks.append(Block("while", row))


def run_leave(machine, call, row):
    """A while ends."""
    leave_block(machine, call, call.blocks[-1])


def run_for(machine, call, row):
    """A for begins."""
    begin_for(machine, call, Block("for", row))


def run_look(machine, call, row):
    """A for looks for its next item."""
    machine.note_step(row[1])
    look_for_next(machine, call, call.blocks[-1])


def run_try(machine, call, row):
    """A try begins."""
    call.blocks.append(Block("try", row))


def run_endarm(machine, call, row):
    """The rows of a try's arm have come to their end."""
    end_arm(machine, call, call.blocks[-1])


def new_deed(machine, call, number, kind):
    """A new deed of a code."""
    title, given, names, rows, hands = machine.codes[number]
    return machine.new_deed(call, Doing(title, given, hands, kind, number))


def run_deed(machine, call, row):
    """A deed is made and put to its name."""
    machine.hall.put(machine.scope_at(call, row[2]), row[1], new_deed(machine, call, row[3], None))


def run_deedpart(machine, call, row):
    """A deed is made, a part of the kind whose rows are done."""
    kind = call.blocks[-1].value
    machine.hall.put(kind, row[1], new_deed(machine, call, row[2], kind))


def run_elder(machine, call, row):
    """An elder's name is read."""
    come_to_elder(machine, call, machine.read_name(machine.scope_at(call, row[2]), row[1]))


def run_kind(machine, call, row):
    """A kind is made, and its rows begin."""
    begin_kind(machine, call, Block("kind", row), row[1], row[2])


def run_endkind(machine, call, row):
    """A kind is put to its name."""
    end_kind(machine, call, machine.scope_at(call, row[2]), row[1])


def run_end(machine, call, row):
    """The rows of a code have come to their end."""
    go_way(machine, call, Way("give", None))


RUNS = {
    "step": run_step, "name": run_name, "ifand": run_pass_and, "ifor": run_pass_or, "set": run_set,
    "setpart": run_setpart, "drop": run_drop, "jump": run_jump, "unless": run_unless, "while": run_while,
    "leave": run_leave, "for": run_for, "look": run_look, "try": run_try, "endarm": run_endarm, "deed": run_deed,
    "deedpart": run_deedpart, "elder": run_elder, "kind": run_kind, "endkind": run_endkind, "end": run_end,
}


def run_row(machine, call, row):
    """Does a row of a code."""
    if is_doing(row):
        do_row(machine, call, row)
    else:
        run = RUNS[row[0]]
        run(machine, call, row)
