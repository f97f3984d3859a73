"""Who wins a play on a finite graph: a reference for the tests, which shares nothing with the program."""

LOST = ("sink", 0)
WON = ("sink", 1)
NEUTRAL = 3


class Game:
    """A graph of nodes, each with an owner and a rank; the least rank that comes again and again decides.

    WON and LOST are nodes at which the play is won and lost for the side told.
    """

    def __init__(self, side):
        self.side = side
        self.owner = {}
        self.rank = {}
        self.nexts = {}
        self.add(WON, side, side, [WON])
        self.add(LOST, side, 1 - side, [LOST])

    def add(self, node, owner, rank, nexts):
        self.owner[node] = owner
        self.rank[node] = rank
        # A side that has no move has lost.
        self.nexts[node] = nexts or [LOST if owner == self.side else WON]

    def won(self):
        """The set of the nodes from which the side told wins."""
        self.backs = {node: [] for node in self.nexts}
        for node, nexts in self.nexts.items():
            for following in set(nexts):
                self.backs[following].append(node)
        return self.split(set(self.nexts))[self.side]

    def drawn_to(self, side, goal, nodes):
        """The nodes from which this side can bring the play into the goal, staying in nodes."""
        found = set(goal)
        waiting = list(goal)
        ways_out = {}
        while waiting:
            for node in self.backs[waiting.pop()]:
                if node not in nodes or node in found:
                    continue
                if self.owner[node] != side:
                    if node not in ways_out:
                        ways_out[node] = len([to for to in set(self.nexts[node]) if to in nodes])
                    ways_out[node] -= 1
                    if ways_out[node]:
                        continue
                found.add(node)
                waiting.append(node)
        return found

    def split(self, nodes):
        """Zielonka's way: the nodes from which side 0 wins, and those from which side 1 does."""
        lost = set()
        while nodes:
            least = min(self.rank[node] for node in nodes)
            side = least % 2
            best = {node for node in nodes if self.rank[node] == least}
            rest = nodes - self.drawn_to(side, best, nodes)
            against = self.split(rest)[1 - side]
            if not against:
                break
            against = self.drawn_to(1 - side, against, nodes)
            nodes = nodes - against
            lost |= {(1 - side, node) for node in against}
        won = [{node for other, node in lost if other == side} for side in (0, 1)]
        if nodes:
            won[min(self.rank[node] for node in nodes) % 2] |= nodes
        return won
