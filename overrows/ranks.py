"""Ranks: the looks of the rows of a partition, counts of the rows around them."""


def rank_looks(function, line):
    """The list of the looks of a rank, place by place."""
    groups = [group for group, _ in line[1]]
    return [_rank_look(function, groups, place) for place in range(len(groups))]


def _rank_look(function, groups, place):
    rows = len(groups)
    ahead_of_peers = groups.index(groups[place])
    if function == "row":
        return (place,)
    if function == "rank":
        return (ahead_of_peers,)
    if function == "dense":
        return (groups[place],)
    if function == "percent":
        return (ahead_of_peers, rows)
    if function == "share":
        return (ahead_of_peers + groups.count(groups[place]), rows)
    return (place, rows)
