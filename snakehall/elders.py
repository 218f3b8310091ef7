"""The order of elders."""


def order_of(elders, title):
    """The list of a title and all that stand above it, None where there is no such order."""
    orders = {}
    for each in elders_first(elders, title):
        orders[each] = order_from(each, elders[each], orders)
    return orders[title]


def elders_first(elders, title):
    """The list of a title and all that stand above it, each behind its elders."""
    told = {}
    # A way up from the title, kept here because it may be longer than calls within calls can be.
    way = [title]
    while way:
        lacking = [elder for elder in elders[way[-1]] if elder not in told]
        if lacking:
            way.append(lacking[0])
        else:
            told[way.pop()] = True
    return list(told)


def order_from(title, own, orders):
    """The order of a title with these elders of its own, whose orders are known."""
    if len(set(own)) < len(own):
        return None
    above = [orders[elder] for elder in own]
    if any([order is None for order in above]):
        return None
    rest = merged([*above, own])
    return None if rest is None else [title, *rest]


def merged(lists):
    """The one list that several lists make, None where no title of them can be taken."""
    firsts = [0 for each in lists]
    behind = behind_firsts(lists)
    told = []
    for step in range(len(titles_in(lists))):
        title = title_to_take(lists, firsts, behind)
        if title is None:
            return None
        told.append(title)
        take_out(title, lists, firsts, behind)
    return told


def titles_in(lists):
    """A dict of all titles to True."""
    return {title: True for each in lists for title in each}


def behind_firsts(lists):
    """A dict from each title to the number of lists in which it stands behind the first place."""
    behind = {}
    for each in lists:
        for title in each[1:]:
            behind[title] = behind.get(title, 0) + 1
    return behind


def title_to_take(lists, firsts, behind):
    """The first title of the first list whose first title stands behind no other, None where there is none."""
    for each, first in zip(lists, firsts):
        if first < len(each) and behind.get(each[first], 0) == 0:
            return each[first]
    return None


def take_out(title, lists, firsts, behind):
    """Goes past a title in all lists that begin with it."""
    for at, each in enumerate(lists):
        if firsts[at] < len(each) and each[firsts[at]] == title:
            firsts[at] += 1
            if firsts[at] < len(each):
                behind[each[firsts[at]]] -= 1
