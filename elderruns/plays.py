"""What a part shows and makes in the runs of a row, whether it is right, and its least machine."""

from elderruns.errors import UnlikeHandlers
from elderruns.fresh import Fresh
from elderruns.runs import runs_behind
from elderruns.searches import plain_row, plain_ways, search, tokens_to
from elderruns.steps import find_steps, first_old_row, is_old_somewhere, own_lists, steps_in


def play(part, row):
    """Return the list of what the part shows in each run of a row."""
    return [run.shows for run in runs_behind(part, row, False)]


def play_fresh(part, row):
    """Return the list of what the fresh part shows in each run of a row."""
    return [run.shows for run in runs_behind(part, row, True)]


def makings(part, row):
    """Return the list of the names of the slots that were made, for each run of a row."""
    return [run.made for run in runs_behind(part, row, False)]


def wrong_row(part, together=False):
    """Return the first plain row (with `together` the first row) behind which a slot is not right."""
    fresh = Fresh(part)
    return first_old_row(fresh, find_steps(fresh, together), own_lists(part))


def all_steps(part, together=False):
    """Return the ascending list of all plain steps (with `together` of all steps)."""
    fresh = Fresh(part)
    steps = sorted(steps_in(find_steps(fresh, together)))
    return [(fresh.holdings[one], fresh.holdings[other]) for one, other in steps]


def places_behind(fresh, place, together):
    """Return the list of the places behind one event (with `together` behind one batch)."""
    if not together:
        return fresh.next_places(place)
    moves = fresh.run_at(place).moves
    found = {}
    queue = fresh.next_places(place)
    while len(queue) > 0:
        now = queue.pop()
        if now not in found:
            found[now] = True
            queue.extend([move[now] for move in moves])
    return list(found)


def judge(part, table, together=False):
    """Return True if a list of steps has all that may come, and nothing is old at any of them."""
    fresh = Fresh(part)
    steps = {(fresh.places[one], fresh.places[other]): True for one, other in table}
    starts = {0: True}
    for _, place in steps:
        starts[place] = True
    for start in starts:
        if not all([(start, place) in steps for place in places_behind(fresh, start, together)]):
            return False
    lists = own_lists(part)
    return not any([is_old_somewhere(fresh, lists, step) for step in steps])


def followed_by_both(fresh, other, pair):
    """Return what comes behind the places of two fresh parts, as tuples of an event and a pair."""
    pairs = list(zip(fresh.next_places(pair[0]), other.next_places(pair[1])))
    return list(enumerate(pairs))


def first_unlike(one, other):
    """Return the first plain row behind which two fresh parts show something unlike, or None."""
    if one.handlers != other.handlers:
        raise UnlikeHandlers((one.handlers, other.handlers))
    fresh = Fresh(one)
    unlike = Fresh(other)
    ways = search((0, 0), lambda pair: followed_by_both(fresh, unlike, pair))
    for pair in ways:
        if fresh.shown_at(pair[0]) != unlike.shown_at(pair[1]):
            return plain_row(fresh, tokens_to(ways, pair))
    return None


def numbered(marks):
    """Return a dict from places to numbers from 0 on; equal marks have the same number."""
    numbers = {}
    return {place: numbers.setdefault(mark, len(numbers)) for place, mark in marks.items()}


def least_classes(fresh, places):
    """Return a dict from places to the numbers of their classes.

    Two places are of one class if they show the same for all plain rows. The classes are
    numbered in the order of their first places.
    """
    classes = numbered({place: tuple(fresh.shown_at(place)) for place in places})
    while True:
        finer = numbered({place: (classes[place], tuple([classes[behind] for behind in fresh.next_places(place)]))
                          for place in places})
        if finer == classes:
            return classes
        classes = finer


def machine(part):
    """Return the least machine of the fresh part, as a list of states.

    The places come in the order of the first rows to them, and so do their classes: the first
    way to a class is the first way to its first place. So the classes are numbered as states.
    """
    fresh = Fresh(part)
    places = list(plain_ways(fresh, 0))
    classes = least_classes(fresh, places)
    states = []
    for place in places:
        if classes[place] == len(states):
            behind = [classes[other] for other in fresh.next_places(place)]
            states.append((fresh.shown_at(place), behind))
    return states
