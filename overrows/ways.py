"""Ways to reckon sums: four ways to the values of all frames, and the joins that each of them takes."""

from overrows.errors import NoWay
from overrows.frames import frame_places, pieces, stretches
from overrows.sums import bare, joined_states, lifted, state_value, taken_away


def ways_of(function, unlike):
    """The list of the ways that the function may use, the same for unlike values."""
    if function in ("count", "sum", "mean"):
        return ["anew", "away", "piles", "halves"]
    return ["anew", "piles", "halves"]


def reckoned(function, unlike, cells, line, frame, way):
    """The pair of the list of the values, place by place, and the number of joins."""
    if way not in ways_of(function, unlike):
        raise NoWay(way)
    joiner = Joiner(function, unlike)
    states = {place: lifted(function, unlike, entries[0]) for place, entries in enumerate(cells) if len(entries) > 0}
    if way == "anew":
        found = _anew(joiner, states, line, frame)
    elif way == "away":
        found = _away(joiner, states, line, frame)
    elif way == "piles":
        found = _by_piles(joiner, states, line, frame)
    else:
        found = _by_halves(joiner, states, line, frame)
    return [state_value(function, unlike, state) for state in found], joiner.joins


class Joiner:
    """Puts the states of one sum together and counts how often."""

    def __init__(self, function, unlike):
        self.function = function
        self.unlike = unlike
        self.joins = 0

    def both(self, early, late):
        """The state of the rows of both."""
        self.joins += 1
        return joined_states(self.function, self.unlike, early, late)

    def without(self, state, part):
        """The state without the rows of the part; this counts as a join, too."""
        self.joins += 1
        return taken_away(self.function, self.unlike, state, part)

    def nothing(self):
        """The state of no rows."""
        return bare(self.function, self.unlike)

    def together(self, states):
        """The state of the rows of a list of states."""
        if len(states) == 0:
            return self.nothing()
        state = states[0]
        for late in states[1:]:
            state = self.both(state, late)
        return state


class Piles:
    """The rows of one piece of the frames, on an old and a young pile, while the piece moves from place to place."""

    def __init__(self, joiner, states):
        self.joiner = joiner
        self.states = states
        # Of the old pile the first row lies on top, as the last item; with each row goes the state of it and of all
        # below it. The young pile lies in order, and only the state of all its rows is known.
        self.old = []
        self.young = []
        self.young_state = None

    def move(self, piece):
        """Let come the rows that the piece has now, and then let go those that it has no more."""
        wanted = _counted(self.states, piece)
        held = [place for place, _ in self.old] + self.young
        if not any([place in wanted for place in held]):
            self.old = []
            self.young = []
            held = []
        for place in wanted:
            if place not in held:
                self._come(place)
        for place in held:
            if place not in wanted:
                self._go()

    def hold(self):
        """The list of the states of the piles that hold rows, the earlier rows first."""
        found = []
        if self.old:
            found.append(self.old[-1][1])
        if self.young:
            found.append(self.young_state)
        return found

    def _come(self, place):
        state = self.states[place]
        self.young_state = self.joiner.both(self.young_state, state) if self.young else state
        self.young.append(place)

    def _go(self):
        if not self.old:
            self._turn_over()
        self.old.pop()

    def _turn_over(self):
        for place in reversed(self.young):
            state = self.states[place]
            if self.old:
                state = self.joiner.both(state, self.old[-1][1])
            self.old.append((place, state))
        self.young = []


def _counted(states, piece):
    """The list of the places of a piece whose rows are counted."""
    if piece is None:
        return []
    return [place for place in range(piece[0], piece[1] + 1) if place in states]


def _anew(joiner, states, line, frame):
    found = []
    for place in range(len(line[1])):
        wanted = [other for other in frame_places(line, place, frame) if other in states]
        found.append(joiner.together([states[other] for other in wanted]))
    return found


def _away(joiner, states, line, frame):
    found = []
    held = []
    state = joiner.nothing()
    for place in range(len(line[1])):
        wanted = [other for other in frame_places(line, place, frame) if other in states]
        for other in held:
            if other not in wanted:
                state = joiner.without(state, states[other])
        for other in wanted:
            if other not in held:
                state = joiner.both(state, states[other])
        held = wanted
        found.append(state)
    return found


def _by_piles(joiner, states, line, frame):
    found = []
    left_piles = Piles(joiner, states)
    right_piles = Piles(joiner, states)
    for place in range(len(line[1])):
        left, own, right = pieces(line, place, frame)
        left_piles.move(left)
        right_piles.move(right)
        own_states = [states[other] for other in _counted(states, own)]
        found.append(joiner.together(left_piles.hold() + own_states + right_piles.hold()))
    return found


def _by_halves(joiner, states, line, frame):
    blocks = _blocks(joiner, states, len(line[1]))
    found = []
    for place in range(len(line[1])):
        parts = []
        for first, last in stretches(line, place, frame):
            parts.extend(_fewest_blocks(first, last))
        found.append(joiner.together([blocks[part] for part in parts]))
    return found


def _blocks(joiner, states, places):
    """The state of each block of a LINE, by its first place and its length."""
    blocks = {(place, 1): states.get(place, joiner.nothing()) for place in range(places)}
    length = 2
    while length <= places:
        half = length // 2
        for first in range(0, places - length + 1, length):
            blocks[first, length] = joiner.both(blocks[first, half], blocks[first + half, half])
        length *= 2
    return blocks


def _fewest_blocks(first, last):
    """The list of the fewest blocks, by first place and length, of which a stretch consists."""
    found = []
    while first <= last:
        length = 1
        while first % (2 * length) == 0 and first + 2 * length - 1 <= last:
            length *= 2
        found.append((first, length))
        first += length
    return found
