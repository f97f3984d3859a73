"""Circles of steps; the steps are a list that tells for each node its pairs (rank, next node)."""


def least_on_wrong_circle(steps, side):
    """The least node on a circle whose least rank this side loses by; None if there is none."""
    ranks = sorted({rank for row in steps for rank, _ in row})
    nodes = [node for rank in ranks if rank % 2 != side for node in on_circles(steps, rank)]
    return min(nodes, default=None)


def on_circles(steps, least):
    """The nodes that lie on a circle whose least rank is this one."""
    parts = parts_of([[node for rank, node in row if rank >= least] for row in steps])
    # In a part each node is reached from each other one, so a step within it is on a circle with all of them.
    wrong = {}
    for node, row in enumerate(steps):
        for rank, following in row:
            if rank == least and parts[node] == parts[following]:
                wrong[parts[node]] = True
    return [node for node, its_part in enumerate(parts) if its_part in wrong]


def parts_of(nexts):
    """For each node the name of its part: two nodes are in one part if each is reached from the other."""
    backs = [[] for _ in nexts]
    for node, row in enumerate(nexts):
        for following in row:
            backs[following].append(node)
    parts = [None] * len(nexts)
    for root in reversed(order_of_leaving(nexts)):
        if parts[root] is None:
            spread(parts, backs, root)
    return parts


def spread(parts, backs, root):
    """Gives the root's name to all nodes that lead to it and have no name yet."""
    parts[root] = root
    waiting = [root]
    while waiting:
        node = waiting.pop()
        for back in backs[node]:
            if parts[back] is None:
                parts[back] = root
                waiting.append(back)


def order_of_leaving(nexts):
    """The nodes in the order in which a walk that goes on as far as it can leaves them for good."""
    seen = set()
    left = []
    for root in range(len(nexts)):
        # A pair of a node and of how many of its steps were followed.
        way = [(root, 0)]
        while way:
            node, followed = way.pop()
            if followed == 0 and node in seen:
                continue
            seen.add(node)
            if followed == len(nexts[node]):
                left.append(node)
            else:
                way.append((node, followed + 1))
                way.append((nexts[node][followed], 0))
    return left
