"""The histories of a looping input: ways through live windows, each at a place of the input."""

from merelylate.graphs import depths_from, lasting, only, sources_of, way_round
from merelylate.lassos import shortened


class Track:
    """The live windows to which a looping input leads, and how they go on by it for ever.

    A node is a place, the number of the letter that is read next, and a live window; node 0 is the start.
    """

    def __init__(self, live, word):
        self.live = live
        # With the shortest loop and stem, histories may have the shortest ones, too.
        self.word = shortened(word[0], word[1])
        self.places = self.word[0] + self.word[1]
        self.turn = len(self.word[0])
        self.nodes = [(0, number) for number in live.starts]
        onto = self.find_nodes()
        self.alive = lasting(onto)
        self.onto = only(self.alive, onto)

    def find_nodes(self):
        """Find all nodes, those with less letters read first, and for each one those that it leads to."""
        numbers = {node: at for at, node in enumerate(self.nodes)}
        onto = []
        while len(onto) < len(self.nodes):
            place, window = self.nodes[len(onto)]
            after = place + 1 if place + 1 < len(self.places) else self.turn
            row = []
            for onward in self.live.ways[window][self.places[place]]:
                node = (after, onward)
                if node not in numbers:
                    numbers[node] = len(self.nodes)
                    self.nodes.append(node)
                row.append(numbers[node])
            onto.append(row)
        return onto

    def has_any(self):
        """Whether the input has a history."""
        return 0 in self.alive

    def column_at(self, node):
        """The column with which a node is come to."""
        return self.live.columns[self.nodes[node][1]]

    def told_at(self, node):
        """What is told by the column with which a node is come to."""
        return self.live.told[self.nodes[node][1]]

    def how_many(self):
        """How many histories there are, None if there are endlessly many."""
        sources = sources_of(self.onto)
        parting = [node for node in self.alive if len(self.onto[node]) > 1]
        # A history that parts from others on a ring may do so each time that it comes round.
        open_ones = depths_from(parting, sources)
        counts = {node: 1 for node in self.alive if node not in open_ones}
        left = {node: len(self.onto[node]) for node in open_ones}
        ready = list(counts)
        while ready:
            done = ready.pop()
            for before in sources[done]:
                if before in left:
                    left[before] -= 1
                    if left[before] == 0:
                        counts[before] = sum([counts[after] for after in self.onto[before]])
                        ready.append(before)
        return counts.get(0)


def some_history(track, most):
    """A stem and a loop of columns that are a history of a track that goes on; None if all have more than so many."""
    found = history_along(track, first_way(track.onto))
    if len(found[0]) + len(found[1]) <= most:
        return found
    way = short_way(track, most)
    return None if way is None else history_along(track, way)


def history_along(track, way):
    """The stem and the loop of columns, as short as can be, of a way of nodes whose last one stands in it before."""
    turn = way.index(way[-1])
    columns = [track.column_at(node) for node in way[1:]]
    return shortened(columns[:turn], columns[turn:])


def first_way(onto):
    """The way from node 0 on by the first node that each one leads to, up to one that has been there before."""
    way = [0]
    known = {0: True}
    while True:
        after = onto[way[-1]][0]
        way.append(after)
        if after in known:
            return way
        known[after] = True


def short_way(track, most):
    """A way from node 0 on round a ring that is a history of so many columns at most, None if there is none."""
    depths = depths_from([0], track.onto)
    sources = sources_of(track.onto)
    for node, depth in depths.items():
        # The columns of a window that comes again are those of the loop: the stem ends ahead of them.
        stem = max(0, depth - track.live.length)
        if stem >= most:
            break
        ring = way_round(track.onto, node, node, most - stem)
        if ring is not None:
            return shortest_to(node, depths, sources) + ring[1:] + [node]
    return None


def shortest_to(node, depths, sources):
    """A shortest way from node 0 to a node, by the depths of the nodes."""
    way = [node]
    while depths[way[-1]] > 0:
        depth = depths[way[-1]] - 1
        way.append([before for before in sources[way[-1]] if depths[before] == depth][0])
    return way[::-1]


def telling_along(track):
    """The shortest stem and loop of what all histories of a track tell, None if they tell unlike things.

    Nodes to which the same number of letters leads are one, and so are all that they lead to: with
    the same to be told from there on, or some histories tell unlike things.
    """
    leaders = list(range(len(track.nodes)))
    waiting = [(row[0], other) for row in track.onto for other in row[1:]]
    while waiting:
        pair = waiting.pop()
        one = leader_of(leaders, pair[0])
        other = leader_of(leaders, pair[1])
        if one != other:
            if track.told_at(one) != track.told_at(other):
                return None
            leaders[other] = one
            waiting.append((track.onto[one][0], track.onto[other][0]))
    return told_along(track, leaders)


def told_along(track, leaders):
    """What is told on the way from node 0 on, all nodes with one leader being one."""
    known = {}
    told = []
    now = leader_of(leaders, track.onto[0][0])
    while now not in known:
        known[now] = len(told)
        told.append(track.told_at(now))
        now = leader_of(leaders, track.onto[now][0])
    return shortened(told[:known[now]], told[known[now]:])


def leader_of(leaders, node):
    """The node that leads all that are one with a node: itself, or its leader's leader and so on."""
    now = node
    while leaders[now] != now:
        # So that the next one who asks goes half as far.
        leaders[now] = leaders[leaders[now]]
        now = leaders[now]
    return now
