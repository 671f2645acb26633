"""Searches for the first rows that lead to something.

A node is whatever tells where one is; a token is one event, and all else in which rows can differ.
"""


def search(start, follow):
    """Return all nodes that can be reached, as a dict from each to the last part of its first way.

    This is a tuple of the node before and a token, and None at the start. The dict is in the order
    of the first ways: the shorter ones first, then those with lesser tokens. `follow` returns the
    ascending tokens of a node, as tuples of a token and the node behind it.
    """
    ways = {start: None}
    queue = [start]
    asked = 0
    while asked < len(queue):
        node = queue[asked]
        asked += 1
        for token, behind in follow(node):
            if behind not in ways:
                ways[behind] = (node, token)
                queue.append(behind)
    return ways


def tokens_to(ways, node):
    """Return the tokens of the first way to a node."""
    tokens = []
    while ways[node] is not None:
        node, token = ways[node]
        tokens.append(token)
    return tokens[::-1]


def plain_ways(fresh, start):
    """Return the ways of plain rows of the fresh part from a place; the nodes are places."""
    return search(start, lambda place: list(enumerate(fresh.next_places(place))))


def plain_row(fresh, tokens):
    """Return the plain row of some events, which are told by their indexes."""
    return [[fresh.events[token]] for token in tokens]
