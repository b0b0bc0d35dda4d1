"""The fewest changes that turn one list of lines into another one."""


def changes_between(old, new):
    """Return insertions and removals, as few as possible of both, that turn the old list into the new one."""
    # A front is the furthest that so many changes lead: a position in the old list and the
    # changes. Its key is by how much that position is beyond the one in the new list.
    fronts = {}
    _reach(fronts, old, new, 0, 0, [])
    goal = len(old) - len(new)
    while goal not in fronts or fronts[goal][0] < len(old):
        fronts = _fronts_beyond(fronts, old, new)
    return fronts[goal][1]


def _fronts_beyond(fronts, old, new):
    beyond = {}
    for lead, (position, changes) in fronts.items():
        # What stands before this index is new already, so it is the index in the changed list.
        index = position - lead
        if position < len(old):
            _reach(beyond, old, new, lead + 1, position + 1, changes + [("remove", index)])
        if index < len(new):
            _reach(beyond, old, new, lead - 1, position, changes + [("insert", index, new[index])])
    return beyond


def _reach(fronts, old, new, lead, position, changes):
    while position < len(old) and position - lead < len(new) and old[position] == new[position - lead]:
        position += 1
    if lead not in fronts or fronts[lead][0] < position:
        fronts[lead] = (position, changes)
