"""Names: the statements of a tree, the names that a deed has of its own, and what may stand where."""

from snakehall.errors import BadTree

# Where the own expressions of a statement stand in it.
EXPRESSIONS = {
    "set": (2,), "setfield": (1, 3), "setitem": (1, 2, 3), "say": (1,), "do": (1,), "give": (1,), "hand": (1,),
    "raise": (1, 2), "dropfield": (1,), "dropitem": (1, 2), "if": (1,), "while": (1,), "for": (2,),
}
NAMING = ("set", "drop", "for", "deed", "kind")
IN_KINDS = ("deed", "set", "pass")


def statements(tree):
    """The list of all statements, in the order of their first rows."""
    told = []
    for statement in tree:
        told.append(statement)
        for rows in blocks_of(statement):
            told.extend(statements(rows))
    return told


def blocks_of(statement):
    """The blocks of a statement, in the order of their rows."""
    form = statement[0]
    if form == "if":
        return [statement[2], statement[3]]
    if form in ("while", "for", "deed", "kind"):
        return [statement[-1]]
    if form == "try":
        excepts = [rows for kind, name, rows in statement[2]]
        return [statement[1], *excepts, statement[3], statement[4]]
    return []


def own_names(rows, given):
    """The rising list of the names that a deed with these rows and parameters has of its own."""
    own = list(given)
    outer = []
    for statement in own_statements(rows):
        if statement[0] == "outer":
            outer.append(statement[1])
        else:
            own.extend(names_of(statement))
    return sorted(set(own) - set(outer))


def own_statements(rows):
    """All statements of a deed's rows, but those in deeds and kinds within."""
    told = []
    for statement in rows:
        told.append(statement)
        if statement[0] not in ("deed", "kind"):
            for inner in blocks_of(statement):
                told.extend(own_statements(inner))
    return told


def names_of(statement):
    """The names that a statement itself gives to its deed."""
    if statement[0] in NAMING:
        return [statement[1]]
    if statement[0] == "try":
        return [name for kind, name, rows in statement[2] if name is not None]
    return []


class Place:
    """Where rows stand: within which deeds, and in a loop of the nearest one or a kind's rows."""

    def __init__(self, deeds, in_loop, in_kind):
        self.deeds = deeds
        self.in_loop = in_loop
        self.in_kind = in_kind


class Deed:
    """What must be known of a deed around: its parameters, its own names, and whether it stands in a kind's rows."""

    def __init__(self, statement, in_kind):
        self.given = statement[2]
        self.names = own_names(statement[3], statement[2])
        self.in_kind = in_kind


def looked(tree):
    """True, or refused with BadTree where a statement stands where it must not."""
    look_rows(tree, Place([], False, False), 0)
    return True


def look_rows(rows, place, number):
    """Looks rows over, the first of which has this number; tells the number behind the last one."""
    for statement in rows:
        if not may_stand(statement, place):
            raise BadTree(number)
        number += 1
        within = place_within(statement, place)
        for inner in blocks_of(statement):
            number = look_rows(inner, within, number)
    return number


def place_within(statement, place):
    """Where the rows in a statement's blocks stand."""
    form = statement[0]
    if form == "deed":
        return Place([*place.deeds, Deed(statement, place.in_kind)], False, False)
    if form == "kind":
        return Place(place.deeds, False, True)
    return Place(place.deeds, place.in_loop or form in ("while", "for"), False)


def may_stand(statement, place):
    """Whether a statement may stand where it does."""
    form = statement[0]
    if place.in_kind and form not in IN_KINDS:
        return False
    if form in ("give", "hand") and not place.deeds:
        return False
    if form in ("break", "next") and not place.in_loop:
        return False
    if form == "outer" and not has_outer(statement[1], place.deeds):
        return False
    return not has_super(statement) or may_have_super(place.deeds)


def has_outer(name, deeds):
    """Whether a name is no parameter of the nearest deed, and one's own that stands further out."""
    if not deeds or name in deeds[-1].given:
        return False
    return any([name in deed.names for deed in deeds[:-1]])


def may_have_super(deeds):
    """Whether the nearest deed stands in a kind's rows and has a parameter, by which super finds its being."""
    return bool(deeds) and deeds[-1].in_kind and len(deeds[-1].given) > 0


def has_super(statement):
    """Whether super stands in a statement's own expressions."""
    row = [statement[at] for at in EXPRESSIONS.get(statement[0], ())]
    while row:
        part = row.pop()
        # Rows of expressions are walked like expressions: what begins with the word alone is super.
        if isinstance(part, tuple):
            if part[:1] == ("super",):
                return True
            row.extend(part)
    return False
