"""Nodes numbered from 0 on, for each one a list of those that it leads to; and the ways between them."""

# The number of steps where there is no greatest one.
ANY = "any"


def sources_of(onto):
    """For each node the list of those that lead to it."""
    found = [[] for _ in onto]
    for node, row in enumerate(onto):
        for after in row:
            found[after].append(node)
    return found


def lasting(onto):
    """A dict of True for the nodes from which ways lead on for ever."""
    sources = sources_of(onto)
    left = [len(row) for row in onto]
    # A node dies with the last one that it leads to.
    dying = [node for node, many in enumerate(left) if many == 0]
    while dying:
        gone = dying.pop()
        for before in sources[gone]:
            left[before] -= 1
            if left[before] == 0:
                dying.append(before)
    return {node: True for node, many in enumerate(left) if many > 0}


def only(kept, onto):
    """What the nodes lead to, but for those that are not kept."""
    return [[after for after in row if after in kept] for row in onto]


def depths_from(firsts, onto):
    """A dict of the nodes to which ways lead from some nodes, with how many steps that takes at least."""
    found = list(firsts)
    depths = {node: 0 for node in found}
    at = 0
    while at < len(found):
        node = found[at]
        for after in onto[node]:
            if after not in depths:
                depths[after] = depths[node] + 1
                found.append(after)
        at += 1
    return depths


def span(firsts, marked, onto, sources):
    """The least and the greatest number of steps from some nodes to marked ones.

    The greatest one is ANY if there is none; None for both if no way leads there.
    """
    depths = depths_from(firsts, onto)
    ends = [node for node in marked if node in depths]
    if not ends:
        return None
    # What matters is on a way from a first node to a marked one.
    between = {node: True for node in depths_from(ends, sources) if node in depths}
    return min([depths[node] for node in ends]), longest(ends, between, onto, sources)


def longest(ends, between, onto, sources):
    """The most steps to some nodes by others, each of which leads to one of them; ANY if they lead in a ring."""
    left = {node: len([before for before in sources[node] if before in between]) for node in between}
    steps = {node: 0 for node in between}
    ready = [node for node in between if left[node] == 0]
    done = 0
    while ready:
        node = ready.pop()
        done += 1
        for after in onto[node]:
            if after in between:
                steps[after] = max(steps[after], steps[node] + 1)
                left[after] -= 1
                if left[after] == 0:
                    ready.append(after)
    if done < len(between):
        return ANY
    return max([steps[node] for node in ends])


def way_round(onto, first, goal, most):
    """The fewest nodes, not more than so many, from a first one on behind which a goal is come to.

    None if there are no such nodes.
    """
    found = [first]
    sources = [-1]
    lengths = [1]
    known = {first: True}
    at = 0
    while at < len(found) and lengths[at] <= most:
        node = found[at]
        for after in onto[node]:
            if after == goal:
                return [found[number] for number in way_back(sources, at)]
            if after not in known:
                known[after] = True
                found.append(after)
                sources.append(at)
                lengths.append(lengths[at] + 1)
        at += 1
    return None


def way_back(sources, at):
    """The numbers on the way from the first to a number, each one's source ahead of it."""
    way = []
    now = at
    while now >= 0:
        way.append(now)
        now = sources[now]
    return way[::-1]
