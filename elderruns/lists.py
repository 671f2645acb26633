"""The lists beside the slots: which ones are right, which are the least, and what is idle in them.

A set of names is told within this file by the integer that has the bit k for the name k.
"""

from elderruns.errors import NotRight
from elderruns.fresh import Fresh
from elderruns.names import check_known
from elderruns.parts import names_ahead
from elderruns.steps import changing, find_steps, first_old_row, own_lists, steps_in, turns


def bits_of(names, chosen):
    """Return the set of those of some names that are chosen."""
    return sum([1 << k for k, name in enumerate(names) if name in chosen])


def indexes_of(bits):
    """Return the ascending list of the indexes of the names in a set."""
    return [k for k in range(bits.bit_length()) if (bits >> k) & 1 == 1]


def in_order(sets):
    """Return some sets by their number of names, then as lists of indexes."""
    marks = [(len(indexes_of(bits)), indexes_of(bits), bits) for bits in sets]
    return [bits for _, _, bits in sorted(marks)]


def told(names, sets):
    """Return sets as lists of names, in order."""
    return [[names[k] for k in indexes_of(bits)] for bits in in_order(sets)]


def ahead_of(part, index):
    """Return the names of the cells, and of the memos ahead of the slot with an index."""
    return names_ahead(part.cells, part.built[:index])


def turning_sets(fresh, steps, index):
    """Return the sets of names that change at steps at which a slot turns, the least ones alone."""
    names = ahead_of(fresh.part, index)
    found = {}
    for step in steps:
        if turns(fresh, index, step):
            found[bits_of(names, changing(fresh, names, step))] = True
    return [bits for bits in found if not any([bits != less and (bits & less) == less for less in found])]


def sets_of(part, index, together):
    """Return the sets for one slot alone."""
    fresh = Fresh(part)
    return turning_sets(fresh, steps_in(find_steps(fresh, together)), index)


def meets_all(bits, sets):
    """Return True if a set of names has one of each of some sets."""
    return all([(bits & other) != 0 for other in sets])


def least_meeting(many, sets):
    """Return the least sets of some first names that have one of each of some sets, in order."""
    right = [meets_all(bits, sets) for bits in range(1 << many)]
    found = []
    for bits in range(1 << many):
        if right[bits] and not any([right[bits - (1 << k)] for k in indexes_of(bits)]):
            found.append(bits)
    return in_order(found)


def turning(part, name, together=False):
    """Return the least sets of names that change at a step at which a slot turns."""
    index = part.place_of(name)
    return told(ahead_of(part, index), sets_of(part, index, together))


def is_right_list(part, name, names, together=False):
    """Return True if a list of names is right for a slot."""
    index = part.place_of(name)
    known = ahead_of(part, index)
    check_known(names, known)
    return meets_all(bits_of(known, names), sets_of(part, index, together))


def least_lists(part, name, together=False):
    """Return the lists that are right for a slot and of which no name can be left out."""
    index = part.place_of(name)
    known = ahead_of(part, index)
    return told(known, least_meeting(len(known), sets_of(part, index, together)))


def missing_row(part, name, names, together=False):
    """Return the first row at whose last step a slot turns and none of some names changes, or None."""
    index = part.place_of(name)
    check_known(names, ahead_of(part, index))
    fresh = Fresh(part)
    return first_old_row(fresh, find_steps(fresh, together), [(index, names)])


def tightened(part, together=False):
    """Return the part in which each slot has the first of its least lists."""
    fresh = Fresh(part)
    steps = steps_in(find_steps(fresh, together))
    found = part
    for index, slot in enumerate(part.built):
        names = ahead_of(part, index)
        least = least_meeting(len(names), turning_sets(fresh, steps, index))
        found = found.having(slot.name, [names[k] for k in indexes_of(least[0])])
    return found


def idle(part, together=False):
    """Return each name, behind its slot, without which alone the list is still right."""
    fresh = Fresh(part)
    ways = find_steps(fresh, together)
    row = first_old_row(fresh, ways, own_lists(part))
    if row is not None:
        raise NotRight(row)
    found = []
    for index, slot in enumerate(part.built):
        names = ahead_of(part, index)
        sets = turning_sets(fresh, steps_in(ways), index)
        for name in slot.listed:
            others = [other for other in slot.listed if other != name]
            if meets_all(bits_of(names, others), sets):
                found.append((slot.name, name))
    return found
