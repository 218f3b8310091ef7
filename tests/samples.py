"""Programs by a chance with a set beginning, and all simple statements and blocks, for the tests."""

from test_exprs import made_tree

A = ("name", "a")
B = ("name", "b")
C = ("name", "c")
PASS = ("pass",)
# Each simple statement, as it is written, with its tree.
SIMPLE = (
    ("a = b", ("set", "a", B)),
    ("a.b = c", ("setfield", A, "b", C)),
    ("a[b] = c", ("setitem", A, B, C)),
    ("say a", ("say", A)),
    ("a", ("do", A)),
    ("give a", ("give", A)),
    ("hand a", ("hand", A)),
    ("raise", ("again",)),
    ("raise a", ("raise", A, None)),
    ("raise a from b", ("raise", A, B)),
    ("let go a", ("drop", "a")),
    ("let go a.b", ("dropfield", A, "b")),
    ("let go a[b]", ("dropitem", A, B)),
    ("outer a", ("outer", "a")),
    ("break", ("break",)),
    ("next", ("next",)),
    ("pass", PASS),
    ("sweep", ("sweep",)),
)
# Each sort of block, as it is written, with its tree.
BLOCKS = (
    ("if a:\n  pass", ("if", A, (PASS,), ())),
    ("if a:\n  pass\nelse:\n  break", ("if", A, (PASS,), (("break",),))),
    ("while a:\n  pass", ("while", A, (PASS,))),
    ("for a in b:\n  pass", ("for", "a", B, (PASS,))),
    ("deed f():\n  pass", ("deed", "f", (), (PASS,))),
    ("deed f(a):\n  pass", ("deed", "f", ("a",), (PASS,))),
    ("deed f(a, b):\n  pass", ("deed", "f", ("a", "b"), (PASS,))),
    ("kind K():\n  pass", ("kind", "K", (), (PASS,))),
    ("kind K(A, B):\n  pass", ("kind", "K", ("A", "B"), (PASS,))),
    ("try:\n  pass\nexcept A:\n  a", ("try", (PASS,), (("A", None, (("do", A),)),), (), ())),
    ("try:\n  pass\nexcept A as b:\n  a", ("try", (PASS,), (("A", "b", (("do", A),)),), (), ())),
    ("try:\n  pass\nfinally:\n  a", ("try", (PASS,), (), (), (("do", A),))),
    ("try:\n  pass\nexcept A:\n  a\nelse:\n  b", ("try", (PASS,), (("A", None, (("do", A),)),), (("do", B),), ())),
    (
        "try:\n  pass\nexcept A:\n  a\nfinally:\n  b",
        ("try", (PASS,), (("A", None, (("do", A),)),), (), (("do", B),)),
    ),
    (
        "try:\n  pass\nexcept A as x:\n  a\nexcept B:\n  b\nelse:\n  c\nfinally:\n  next",
        ("try", (PASS,), (("A", "x", (("do", A),)), ("B", None, (("do", B),))), (("do", C),), (("next",),)),
    ),
)


def made_rows(chance, depth, most):
    """Rows of a program, one at least."""
    return tuple(made_statement(chance, depth) for _ in range(chance.randint(1, most)))


def maybe_rows(chance, depth):
    return made_rows(chance, depth, 2) if chance.random() < 0.5 else ()


def made_statement(chance, depth):
    if depth and chance.random() < 0.5:
        return made_block(chance, depth - 1)
    return made_simple(chance)


def made_name(chance):
    return chance.choice(("a", "b", "total", "Kind9", "sayer", "x" * 12))


def made_simple(chance):
    form = chance.choice(SIMPLE)[1][0]
    name = made_name(chance)
    one, two, three = (made_tree(chance, 2) for _ in range(3))
    # A target has at most eight tails, and the last one is its own: a name ahead leaves room for it.
    front = ("name", name)
    return {
        "set": ("set", name, one), "setfield": ("setfield", front, name, one),
        "setitem": ("setitem", front, two, three), "raise": ("raise", one, chance.choice((None, two))),
        "drop": ("drop", name), "dropfield": ("dropfield", front, name), "dropitem": ("dropitem", front, one),
        "outer": ("outer", name), "say": ("say", one), "do": ("do", one), "give": ("give", one), "hand": ("hand", one),
    }.get(form, (form,))


def made_block(chance, depth):
    form = chance.choice(("if", "while", "for", "deed", "kind", "try"))
    rows = made_rows(chance, depth, 3)
    tree = made_tree(chance, 2)
    if form == "if":
        return (form, tree, rows, maybe_rows(chance, depth))
    if form == "while":
        return (form, tree, rows)
    if form == "for":
        return (form, made_name(chance), tree, rows)
    if form in ("deed", "kind"):
        return (form, made_name(chance), tuple("pqrstuvw"[:chance.choice((0, 1, 2, 8))]), rows)
    excepts = tuple(
        (made_name(chance), chance.choice((None, made_name(chance))), made_rows(chance, depth, 2))
        for _ in range(chance.choice((0, 1, 2)))
    )
    otherwise = maybe_rows(chance, depth) if excepts else ()
    last = maybe_rows(chance, depth) if excepts else made_rows(chance, depth, 2)
    return (form, rows, excepts, otherwise, last)
