"""Rows for the machine, made of a tree.

A code's rows do one thing behind the other. What an expression's rows come to is put on the stack of the call, from
which the rows behind take it. Names stand with the number of scopes between the call's own one and the one in which
they are sought, or with PROGRAM.
"""

from snakehall.coding import Maker, make_expr
from snakehall.naming import EXPRESSIONS
from snakehall.words import row_of_simple


def made(tree):
    """A tuple of the list of codes and the paper, a dict from each statement's number to where its rows begin."""
    maker = Maker()
    code = maker.new_code("", (), (), None, False)
    make_rows(maker, code, tree)
    code.add(("end",))
    return ([each.told() for each in maker.codes], maker.paper)


def make_rows(maker, code, tree):
    """The rows of some statements."""
    for statement in tree:
        make_statement(maker, code, statement)


def make_statement(maker, code, statement):
    """The rows of a statement, which begin where the paper tells."""
    number = maker.new_number(code)
    form = statement[0]
    if form == "while":
        make_while(maker, code, statement, number)
        return
    code.add(("step", number))
    for at in EXPRESSIONS.get(form, ()):
        if statement[at] is not None:
            make_expr(code, statement[at])
    if form in BLOCKS:
        make = BLOCKS[form]
        make(maker, code, statement, number)
    else:
        make_simple(code, statement)


def make_simple(code, statement):
    """The row of a simple statement whose expressions are reckoned, if it needs one."""
    form = statement[0]
    if form == "set" and code.in_kind:
        code.add(("setpart", statement[1]))
    elif form in ("set", "drop"):
        code.add((form, statement[1], code.hops_to(statement[1])))
    else:
        row = row_of_simple(statement)
        if row is not None:
            code.add(row)


def make_if(maker, code, statement, number):
    """Two blocks, of which one is done."""
    unless = code.hole()
    make_rows(maker, code, statement[2])
    jump = code.hole()
    code.fill(unless, ("unless", code.here()))
    make_rows(maker, code, statement[3])
    code.fill(jump, ("jump", code.here()))


def make_while(maker, code, statement, number):
    """A block that is done again and again, behind a look at its head."""
    begin = code.hole()
    head = code.here()
    code.add(("step", number))
    make_expr(code, statement[1])
    unless = code.hole()
    make_rows(maker, code, statement[2])
    code.add(("jump", head))
    code.fill(unless, ("unless", code.here()))
    code.add(("leave",))
    code.fill(begin, ("while", head, code.here()))


def make_for(maker, code, statement, number):
    """A block that is done for each item."""
    form, name, tree, rows = statement
    begin = code.hole()
    look = code.here()
    code.add(("look", number))
    make_rows(maker, code, rows)
    code.add(("jump", look))
    code.fill(begin, ("for", name, code.hops_to(name), look, code.here()))


def make_try(maker, code, statement, number):
    """The arms of a try, each with a row behind it that ends the arm."""
    form, first, excepts, otherwise, last = statement
    begin = code.hole()
    make_arm(maker, code, first)
    told = []
    for kind, name, rows in excepts:
        hops = None if name is None else code.hops_to(name)
        told.append((kind, code.hops_to(kind), name, hops, make_arm(maker, code, rows)))
    else_at = make_arm(maker, code, otherwise)
    last_at = make_arm(maker, code, last)
    code.fill(begin, ("try", tuple(told), else_at, last_at, code.here()))


def make_arm(maker, code, rows):
    """The rows of a try's arm; tells the number of the first one, None where there are none."""
    if not rows:
        return None
    begin = code.here()
    make_rows(maker, code, rows)
    code.add(("endarm",))
    return begin


def make_deed(maker, code, statement, number):
    """A deed, whose own rows are a code of their own."""
    form, name, given, rows = statement
    inner = maker.new_deed_code(statement, code)
    if code.in_kind:
        code.add(("deedpart", name, inner.number))
    else:
        code.add(("deed", name, code.hops_to(name), inner.number))
    make_rows(maker, inner, rows)
    inner.add(("end",))


def make_kind(maker, code, statement, number):
    """A kind, whose rows stand in the code around."""
    form, name, elders, rows = statement
    for elder in elders:
        code.add(("elder", elder, code.hops_to(elder)))
    code.add(("kind", name, len(elders)))
    code.in_kind = True
    make_rows(maker, code, rows)
    code.in_kind = False
    code.add(("endkind", name, code.hops_to(name)))


BLOCKS = {"if": make_if, "for": make_for, "try": make_try, "deed": make_deed, "kind": make_kind}
