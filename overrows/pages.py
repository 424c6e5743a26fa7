"""Rows on pages: sorting with room for few rows, and the pages that the looks of figures fetch."""

from overrows.conditions import kept
from overrows.errors import NoRoom
from overrows.frames import frame_places, line_of
from overrows.functions import RANKS
from overrows.needs import need_of
from overrows.offsets import offset_place
from overrows.orders import ordered
from overrows.plans import partitions_along, run_plan, sort_along
from overrows.tables import named_cells
from overrows.values import is_number, tupled


def runs(table, sort, room, page):
    """The list of the runs into which the rows of a TABLE are put, lists of ROW NUMBERs."""
    _check_room(room, page)
    order = ordered(table, sort)
    coming = [order.index(number) for number, _ in table[1]]
    many = room - 2 * page
    held, coming = coming[:many], coming[many:]
    found = []
    last = -1
    while held:
        fitting = [place for place in held if place > last]
        if len(found) == 0 or len(fitting) == 0:
            found.append([])
            fitting = held
        last = min(fitting)
        found[-1].append(order[last])
        held = [place for place in held if place != last] + coming[:1]
        coming = coming[1:]
    return found


def merges(lengths, room, page):
    """MERGES of runs of these lengths that move as few rows as possible."""
    _check_room(room, page)
    most = room // page - 1
    left = [(length, number) for number, length in enumerate(lengths)]
    following = len(left)
    found = []
    while len(left) > 1:
        # The first merge takes so few that each later one can take as many as it may.
        many = (len(left) - 2) % (most - 1) + 2
        taken, left = sorted(left)[:many], sorted(left)[many:]
        found.append(tuple(sorted([number for _, number in taken])))
        left.append((sum([length for length, _ in taken]), following))
        following += 1
    return found


def moved_by(lengths, merges):
    """How many rows these MERGES of runs of these lengths move."""
    known = list(lengths)
    for numbers in merges:
        known.append(sum([known[number] for number in numbers]))
    return sum(known[len(lengths):])


def shows_merges(lengths, room, page, thing):
    """Whether thing is MERGES that move as few rows as possible."""
    _check_room(room, page)
    if not isinstance(thing, list) or not _are_merges(len(lengths), room // page - 1, thing):
        return False
    return moved_by(lengths, thing) == _moved_at_least(lengths, room, page)


def spilled(table, query, plan, room, page):
    """The triple (answer, moved, fetched): what run_plan returns, and how many rows and pages it takes."""
    _check_room(room, page)
    found = run_plan(table, query, plan)
    where, asked, _, _ = tupled(query)
    rows = kept(table, where)
    sorts = {sort_along(figure, plan): True for figure in asked if need_of(figure) is not None}
    moved = 0
    for sort in sorts:
        lengths = [len(run) for run in runs(rows, sort, room, page)]
        moved += sum(lengths) + _moved_at_least(lengths, room, page)
    fetched = sum([_fetches(_places_read(rows, figure, plan), room // page, page) for figure in asked])
    return found, moved, fetched


def _check_room(room, page):
    if room < 3 * page:
        raise NoRoom(room)


def _moved_at_least(lengths, room, page):
    """How many rows the MERGES move that move as few as possible; none of no runs."""
    return moved_by(lengths, merges(lengths, room, page))


def _are_merges(many, most, thing):
    """Whether the items of a list are MERGES of so many runs, at most so many at a time."""
    left = list(range(many))
    for following, numbers in enumerate(thing, start=many):
        if not _is_merge(numbers, most) or not all([number in left for number in numbers]):
            return False
        left = [number for number in left if number not in numbers] + [following]
    return len(left) == 1


def _is_merge(thing, most):
    if not isinstance(thing, tuple) or not 2 <= len(thing) <= most:
        return False
    if not all([is_number(number) for number in thing]):
        return False
    return all([number < later for number, later in zip(thing, thing[1:])])


def _places_read(rows, figure, plan):
    """The list of the places that are read, row by row, in the order of the SORT of a FIGURE."""
    found = []
    first = 0
    for numbers in partitions_along(rows, figure, plan):
        for needed in _places_needed(rows, figure, numbers):
            found.extend([first + place for place in needed])
        first += len(numbers)
    return found


def _places_needed(rows, figure, numbers):
    """For each place of a partition the ascending list of the places that its look needs."""
    _, function, arguments, _, window = figure
    places = list(range(len(numbers)))
    if function in RANKS:
        return [[] for _ in places]
    line = line_of(rows, window, numbers)
    if function not in ("earlier", "later"):
        return [frame_places(line, place, window[2]) for place in places]
    cells = tuple([named_cells(rows, number, arguments[:1])[0] for number in numbers])
    found = []
    for place in places:
        other = offset_place((function, arguments), cells, line, window[2], place)
        if other is None:
            other = 0 if function == "earlier" else len(numbers) - 1
        found.append(list(range(min(place, other), max(place, other) + 1)))
    return found


def _fetches(places, most, page):
    """How many pages are fetched to read these places one after the other, if at most so many pages are held."""
    # The page whose last use lies back furthest stands first.
    held = []
    fetched = 0
    for place in places:
        wanted = place // page
        if wanted not in held:
            fetched += 1
            held = held[1:] if len(held) == most else held
        held = [other for other in held if other != wanted] + [wanted]
    return fetched
