"""Handlers that are fired later by somebody who kept them, and batches that are cut."""

from elderruns.errors import UnknownHandler
from elderruns.fresh import Fresh
from elderruns.searches import plain_row, plain_ways, search, tokens_to

# The node behind a batch that leaves something else than its events one by one; no place is less than 0.
CUT = -1


def first_pair(fresh, find, by_first):
    """Return the tokens of the first row, and those that `find` returns for its place, or None.

    The first pair is the one with the least number of tokens in both, then in the first row (or in
    what is behind it). Of rows of one length to unlike places, the lesser one comes first.
    """
    ways = plain_ways(fresh, 0)
    least = None
    found = None
    for place in ways:
        behind = find(place)
        if behind is not None:
            ahead = tokens_to(ways, place)
            mark = (len(ahead) + len(behind), len(ahead) if by_first else len(behind))
            if least is None or mark < least:
                least = mark
                found = (ahead, behind)
    return found


def does_else(fresh, made, place, name):
    """Return True if a handler that was made at one place does something else at another one."""
    old, new = fresh.run_at(made).moves, fresh.run_at(place).moves
    return any([old[index][place] != new[index][place]
                for index, event in enumerate(fresh.events) if event[0] == name])


def late_tokens(fresh, made, name):
    """Return the first events behind a place at which a handler that was made there is late, or None."""
    ways = plain_ways(fresh, made)
    for place in ways:
        if does_else(fresh, made, place, name):
            return tokens_to(ways, place)
    return None


def late_rows(part, name):
    """Return the first two rows behind which a handler of the first one is late, or None."""
    if name not in [known for known, _ in part.handlers]:
        raise UnknownHandler(name)
    fresh = Fresh(part)
    found = first_pair(fresh, lambda place: late_tokens(fresh, place, name), True)
    if found is None:
        return None
    ahead, behind = found
    return plain_row(fresh, ahead), plain_row(fresh, behind)


def can_wait(part, name):
    """Return True if a handler is never late, whoever kept it."""
    return late_rows(part, name) is None


def followed_in_batch(fresh, start, place):
    """Return what comes behind a place in a batch that begins elsewhere, as long as it is the same one by one."""
    if place == CUT:
        return []
    batch, single = fresh.run_at(start).moves, fresh.run_at(place).moves
    return [(index, move[place] if move[place] == single[index][place] else CUT)
            for index, move in enumerate(batch)]


def cut_tokens(fresh, start):
    """Return the events of the first batch behind a place that leaves something else if it is cut, or None."""
    ways = search(start, lambda place: followed_in_batch(fresh, start, place))
    if CUT not in ways:
        return None
    return tokens_to(ways, CUT)


def cut_rows(part):
    """Return the first row and the first batch behind it that leaves something else if it is cut, or None."""
    fresh = Fresh(part)
    found = first_pair(fresh, lambda place: cut_tokens(fresh, place), False)
    if found is None:
        return None
    ahead, batch = found
    return plain_row(fresh, ahead), [fresh.events[token] for token in batch]
