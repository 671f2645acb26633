"""The steps of the fresh part, the first rows that lead to them, and what changes at them.

A step is a tuple of the places of what the cells hold in a run and in the next one.
"""

from elderruns.searches import search, tokens_to

# The first one of the node that stands ahead of all steps; no place is less than 0.
AHEAD = -1


def followed(fresh, together, step):
    """Return what may come behind a step, as tuples of a token and another step.

    A token is a tuple of an integer and the index of an event: 0 if the event begins a batch, 1
    if it goes on with the one of the step. The batch that ends is less than the one that goes on.
    """
    first, place = step
    found = [((0, event), (place, move[place])) for event, move in enumerate(fresh.run_at(place).moves)]
    if together and first != AHEAD:
        for event, move in enumerate(fresh.run_at(first).moves):
            found.append(((1, event), (first, move[place])))
    return found


def find_steps(fresh, together):
    """Return the ways to all steps, plain ones or of all rows, and to the node ahead of them."""
    return search((AHEAD, 0), lambda step: followed(fresh, together, step))


def steps_in(ways):
    """Return the list of the steps, in the order of their first rows."""
    return [step for step in ways if step[0] != AHEAD]


def row_to(fresh, ways, step):
    """Return the first row that leads to a step."""
    row = []
    for goes_on, event in tokens_to(ways, step):
        if goes_on == 1:
            row[-1].append(fresh.events[event])
        else:
            row.append([fresh.events[event]])
    return row


def turns(fresh, index, step):
    """Return True if the slot with an index turns at a step."""
    return fresh.run_at(step[0]).made[index] != fresh.run_at(step[1]).made[index]


def changing(fresh, names, step):
    """Return the list of those of some names that change at a step."""
    one, other = fresh.run_at(step[0]).held, fresh.run_at(step[1]).held
    return [name for name in names if one[name] != other[name]]


def is_old(fresh, index, names, step):
    """Return True if a slot turns at a step and none of some names changes."""
    return turns(fresh, index, step) and changing(fresh, names, step) == []


def own_lists(part):
    """Return the list of the indexes of all slots, each with its list."""
    return [(index, slot.listed) for index, slot in enumerate(part.built)]


def is_old_somewhere(fresh, lists, step):
    """Return True if one of some slots turns at a step and none of the names beside it changes."""
    return any([is_old(fresh, index, names, step) for index, names in lists])


def first_old_row(fresh, ways, lists):
    """Return the first row at whose last step something is old, None if there is none.

    As long as all slots are right, what is kept does what the fresh part does; so ahead of this
    row its steps are those of the part itself.
    """
    for step in steps_in(ways):
        if is_old_somewhere(fresh, lists, step):
            return row_to(fresh, ways, step)
    return None
