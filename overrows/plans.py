"""Plans: sorts along which the figures of a query are computed, and as few of them as possible."""

from overrows.conditions import kept
from overrows.errors import Unserved
from overrows.needs import can_share, need_of, needs, serves, sort_for
from overrows.orders import is_order, ordered
from overrows.parts import grouped
from overrows.plain import answer_with, side_by_side, values_of
from overrows.values import tupled


def is_plan(columns, figures, thing):
    """Whether thing is a PLAN for these FIGUREs, all its SORTs of these columns."""
    if not isinstance(thing, tuple) or not all([is_sort(columns, sort) for sort in thing]):
        return False
    return _serves_all(thing, figures)


def run_plan(table, query, plan):
    """The answer of a QUERY, each FIGURE computed along the first SORT that serves its NEED."""
    asked = query[1]
    check_served(asked, plan)
    rows = kept(table, query[0])
    columns = [values_of(rows, figure, partitions_along(rows, figure, plan)) for figure in asked]
    return answer_with(table, query, side_by_side(rows, columns))


def fewest_sorts(figures):
    """The least number of SORTs of a PLAN for these FIGUREs."""
    return len(apart(figures))


def fewest_plan(figures):
    """A PLAN for these FIGUREs with as few SORTs as possible."""
    wanted = needs(figures)
    return tuple([sort_for(group) for group in _shared_out(wanted, [], len(_largest_apart(wanted)))])


def apart(figures):
    """A list of as many NEEDs of these FIGUREs as a PLAN must have SORTs, no two of which can share."""
    return _largest_apart(needs(figures))


def shows_fewest(figures, plan, thing):
    """Whether plan is a PLAN for these FIGUREs and thing a list of NEEDs that shows why none has fewer SORTs."""
    if not isinstance(thing, list) or len(thing) != len(plan) or not _serves_all(plan, figures):
        return False
    wanted = needs(figures)
    # 1 and 0 are equal to True and False, but they tell nothing of a NEED.
    if not all([need in wanted and isinstance(need[2], bool) for need in thing]):
        return False
    return not any([can_share(one, other) for place, one in enumerate(thing) for other in thing[place + 1:]])


def is_sort(columns, thing):
    """Whether thing is a SORT of these columns."""
    return is_order(columns, thing) and len(thing) > 0 and len({name for name, _, _ in thing}) == len(thing)


def check_served(asked, plan):
    """Raise Unserved with the least NEED of these FIGUREs that no SORT of the plan serves, if there is one."""
    for need in needs(asked):
        if not any([serves(sort, need) for sort in plan]):
            raise Unserved(need)


def sort_along(figure, plan):
    """The first SORT of the plan that serves the NEED of a FIGURE, () of a FIGURE without a NEED."""
    need = need_of(figure)
    if need is None:
        return ()
    return [tupled(sort) for sort in plan if serves(sort, need)][0]


def partitions_along(table, figure, plan):
    """The list of the partitions of a FIGURE's WINDOW, the rows in the order of the SORT that serves it."""
    return grouped(table, figure[4][0], ordered(table, sort_along(figure, plan)))


def _serves_all(plan, figures):
    return all([any([serves(sort, need) for sort in plan]) for need in needs(figures)])


def _largest_apart(wanted):
    """The largest list of some NEEDs no two of which can share."""
    if len(wanted) == 0:
        return []
    first, others = wanted[0], wanted[1:]
    with_first = [first] + _largest_apart([other for other in others if not can_share(first, other)])
    without = _largest_apart(others)
    return with_first if len(with_first) >= len(without) else without


def _shared_out(wanted, groups, many):
    """The NEEDs dealt out to these groups, at most so many, in each of which any two can share; None if none are."""
    if len(wanted) == 0:
        return groups
    first, others = wanted[0], wanted[1:]
    for place, group in enumerate(groups):
        if all([can_share(first, other) for other in group]):
            found = _shared_out(others, [*groups[:place], [*group, first], *groups[place + 1:]], many)
            if found is not None:
                return found
    return _shared_out(others, [*groups, [first]], many) if len(groups) < many else None
