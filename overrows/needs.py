"""Needs: in which sorts the rows must stand for a figure, and which needs one sort can serve."""

from overrows.errors import Apart
from overrows.functions import OFFSETS, RANKS
from overrows.values import tupled


def needs(figures):
    """The ascending list of the NEEDs of some FIGUREs."""
    found = [need_of(figure) for figure in figures]
    return sorted({need for need in found if need is not None})


def need_of(figure):
    """The NEED of a FIGURE, None if it has none."""
    parts, order, _ = figure[4]
    if len(parts) == 0 and len(order) == 0:
        return None
    return tuple(sorted(parts)), short_order(figure[4]), is_tight(figure)


def short_order(window):
    """The order of a WINDOW without the items that cannot tell two rows of a partition apart."""
    parts, order, _ = window
    names = [name for name, _, _ in order]
    return tuple([
        tuple(item) for place, item in enumerate(order)
        if item[0] not in parts and item[0] not in names[:place]
    ])


def is_tight(figure):
    """Whether the value of a FIGURE may depend on how PEERS stand among each other."""
    function, window = figure[1], figure[4]
    if function in RANKS:
        return function in ("row", "tile")
    return function in OFFSETS or function == "joined" or window[2][0] == "rows"


def serves(sort, need):
    """Whether a SORT serves a NEED."""
    parts, order, tight = tupled(need)
    ahead, behind = tupled(sort[:len(parts)]), tupled(sort[len(parts):])
    if sorted([name for name, _, _ in ahead]) != list(parts):
        return False
    return behind == order if tight else behind[:len(order)] == order


def can_share(one, other):
    """Whether some SORT serves both NEEDs."""
    sort = _only_hope([one, other])
    return serves(sort, one) and serves(sort, other)


def sort_for(needs):
    """A SORT that serves all NEEDs of a list that is not empty."""
    for place, one in enumerate(needs):
        for other in needs[place + 1:]:
            if not can_share(one, other):
                raise Apart(tupled(one), tupled(other))
    return _only_hope(needs)


def _only_hope(wanted):
    """A SORT that serves all NEEDs of a list, if there is one."""
    items = []
    for _ in range(max([len(parts) + len(order) for parts, order, _ in wanted])):
        items = items + _next_item(wanted, items)
    return tuple(items)


def _next_item(wanted, items):
    """A list of one item that may stand behind these items for all NEEDs, empty if no item may.

    The order of a NEED that has come so far states its item. If there is none, the columns of the fewest parts that
    are not through come first, because all the other parts must have these columns, too.
    """
    place = len(items)
    for parts, order, _ in wanted:
        if len(parts) <= place < len(parts) + len(order):
            return [tuple(order[place - len(parts)])]
    waiting = [parts for parts, _, _ in wanted if len(parts) > place]
    used = [name for name, _, _ in items]
    left = [name for name in min(waiting, key=len) if name not in used]
    return [(name, "up", "last") for name in left[:1]]
