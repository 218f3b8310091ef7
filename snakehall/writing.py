"""From trees to texts: expressions, and the first row of each statement."""

WORDS = ("yes", "no", "none", "ask", "break", "next", "pass", "sweep")
OPERATORS = ("+", "-", "*", "<", "==", "and", "or")


def expr_text(tree):
    """The text of an expression."""
    form = tree[0]
    if form in WORDS:
        return form
    if form in ("number", "name"):
        return str(tree[1])
    if form == "text":
        return f'"{tree[1]}"'
    if form in OPERATORS:
        return f"({expr_text(tree[1])} {form} {expr_text(tree[2])})"
    if form == "not":
        return f"(not {expr_text(tree[1])})"
    if form in ("pull", "size"):
        return f"{form}({expr_text(tree[1])})"
    if form == "list":
        return f"[{exprs_text(tree[1])}]"
    if form == "table":
        return table_text(tree[1])
    if form == "super":
        return f"super.{tree[1]}({exprs_text(tree[2])})"
    return tail_text(tree)


def exprs_text(trees):
    """The text of a row of expressions."""
    return ", ".join([expr_text(tree) for tree in trees])


def table_text(pairs):
    """The text of a table."""
    inner = ", ".join([f"{expr_text(key)}: {expr_text(value)}" for key, value in pairs])
    return "{" + inner + "}"


def tail_text(tree):
    """The text of an expression with a field, an item or a call behind it."""
    form, front, tail = tree
    if form == "field":
        return f"{expr_text(front)}.{tail}"
    if form == "item":
        return f"{expr_text(front)}[{expr_text(tail)}]"
    return f"{expr_text(front)}({exprs_text(tail)})"


def simple_text(statement):
    """The text of a simple statement."""
    form = statement[0]
    if form in WORDS:
        return form
    if form == "again":
        return "raise"
    if form == "do":
        return expr_text(statement[1])
    if form in ("say", "give", "hand"):
        return f"{form} {expr_text(statement[1])}"
    if form == "raise":
        return raise_text(statement)
    if form == "outer":
        return f"outer {statement[1]}"
    if form in ("drop", "dropfield", "dropitem"):
        return f"let go {target_text(statement[1:])}"
    return f"{target_text(statement[1:-1])} = {expr_text(statement[-1])}"


def raise_text(statement):
    """The text of a raise of an error."""
    form, error, cause = statement
    if cause is None:
        return f"{form} {expr_text(error)}"
    return f"{form} {expr_text(error)} from {expr_text(cause)}"


def target_text(target):
    """The text of what is set or let go: a name alone, a thing and a field's name, or a thing and an item's key."""
    if len(target) == 1:
        return target[0]
    front, behind = target
    if isinstance(behind, str):
        return expr_text(("field", front, behind))
    return expr_text(("item", front, behind))


def blocks_of_text(statement):
    """The rows that a statement itself has in a text, in order: pairs of a row and the statements further in."""
    form = statement[0]
    if form == "try":
        return try_blocks(statement)
    if form in ("if", "while"):
        blocks = [(f"{form} {expr_text(statement[1])}:", statement[2])]
        if form == "if":
            blocks.extend(arm_blocks("else", statement[3]))
        return blocks
    if form == "for":
        return [(f"for {statement[1]} in {expr_text(statement[2])}:", statement[3])]
    if form in ("deed", "kind"):
        names = ", ".join(statement[2])
        return [(f"{form} {statement[1]}({names}):", statement[3])]
    return [(simple_text(statement), ())]


def try_blocks(statement):
    """A try's own rows: its head and its arms."""
    form, first, excepts, otherwise, last = statement
    blocks = [(f"{form}:", first)]
    for kind, name, rows in excepts:
        behind = "" if name is None else f" as {name}"
        blocks.append((f"except {kind}{behind}:", rows))
    return blocks + arm_blocks("else", otherwise) + arm_blocks("finally", last)


def arm_blocks(word, rows):
    """An arm of one word, which is not written where it has no rows."""
    return [(f"{word}:", rows)] if rows else []
