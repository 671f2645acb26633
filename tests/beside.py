"""Parts told by plain tuples, and what the document says of them, found by going through all that comes.

Nothing here uses the package but `built`, which makes a part of a plan. Values are told by integers
and by tuples: ("named", name), ("now", name), ("passed",), ("~", one), ("//", one, n), ("mod", one, n),
and (sign, one, other) with one of the signs + - * & | = <.
"""

import itertools

from elderruns.parts import Part, handler, memo
from elderruns.values import named, now, number, passed

LEAVES = {"named": named, "now": now, "passed": passed}
SIGNS = {
    "+": lambda one, other: one + other, "-": lambda one, other: one - other, "*": lambda one, other: one * other,
    "&": lambda one, other: one & other, "|": lambda one, other: one | other,
    "=": lambda one, other: one.same(other), "<": lambda one, other: one.less(other),
    "//": lambda one, n: one // n, "mod": lambda one, n: one.rest(n),
}
MEANT = {
    "+": lambda one, other: one + other, "-": lambda one, other: one - other, "*": lambda one, other: one * other,
    "&": lambda one, other: 1 if one and other else 0, "|": lambda one, other: 1 if one or other else 0,
    "=": lambda one, other: 1 if one == other else 0, "<": lambda one, other: 1 if one < other else 0,
    "//": lambda one, n: one // n, "mod": lambda one, n: one - n * (one // n),
}


def value_of(tree):
    """Return the value of the program that a tree tells."""
    if isinstance(tree, int):
        return number(tree)
    if tree[0] in LEAVES:
        return LEAVES[tree[0]](*tree[1:])
    if tree[0] == "~":
        return ~value_of(tree[1])
    if tree[0] in ("//", "mod"):
        return SIGNS[tree[0]](value_of(tree[1]), tree[2])
    return SIGNS[tree[0]](value_of(tree[1]), value_of(tree[2]))


def meant(tree, held, present, argument):
    """Return the integer that a tree stands for."""
    if isinstance(tree, int):
        return tree
    if tree[0] in LEAVES:
        return {"named": held, "now": present}[tree[0]][tree[1]] if tree[0] != "passed" else argument
    parts = [meant(one, held, present, argument) for one in tree[1:]]
    return (1 if parts[0] == 0 else 0) if tree[0] == "~" else MEANT[tree[0]](*parts)


def many(row):
    """Return the number of events of a row."""
    return sum(len(batch) for batch in row)


class Plan:
    """A part: its cells, its slots ("memo", name, tree, list) or ("on", name, number, puts, list), its shown trees.

    What the cells hold is a tuple of integers. A run is a tuple of what they hold, of the slots as they are kept
    (each a tuple of what was caught, what stood beside it, and the integer of a memo), of the names of those that
    were made, and of what is shown.
    """

    def __init__(self, cells, slots, shown):
        self.cells, self.slots, self.shown = cells, slots, shown
        self.names = [name for name, _ in cells]
        self.start = tuple(0 for _ in cells)
        self.events = [(slot[1], at) for slot in slots if slot[0] == "on" for at in range(slot[2])]
        self.all_held = list(itertools.product(*[range(size) for _, size in cells]))

    def built(self):
        """Return the part of the program."""
        slots = [memo(slot[1], value_of(slot[2]), slot[3]) if slot[0] == "memo" else
                 handler(slot[1], slot[2], [(cell, value_of(tree)) for cell, tree in slot[3]], slot[4])
                 for slot in self.slots]
        return Part(self.cells, slots, [value_of(tree) for tree in self.shown])

    def index(self, name):
        """Return the index of a slot."""
        return [slot[1] for slot in self.slots].index(name)

    def ahead(self, index):
        """Return the names of the cells and of the memos ahead of a slot."""
        return self.names + [slot[1] for slot in self.slots[:index] if slot[0] == "memo"]

    # Points 5 and 6: runs, events and rows.

    def run(self, cells, before=None, fresh=False):
        """Return the run with what the cells hold, behind another run."""
        held, kept, made = dict(zip(self.names, cells)), [], []
        for index, slot in enumerate(self.slots):
            stood = {name: held[name] for name in slot[-1]}
            if fresh or before is None or before[1][index][1] != stood:
                made.append(slot[1])
                kept.append((dict(held), stood, meant(slot[2], held, {}, 0) if slot[0] == "memo" else None))
            else:
                kept.append(before[1][index])
            if slot[0] == "memo":
                held[slot[1]] = kept[index][2]
        return cells, kept, made, [meant(tree, held, {}, 0) for tree in self.shown]

    def fire(self, index, caught, argument, cells):
        """Return what the cells hold behind an event, for what its handler caught."""
        present = dict(zip(self.names, cells))
        for cell, tree in self.slots[index][3]:
            present[cell] = meant(tree, caught, present, argument) % dict(self.cells)[cell]
        return tuple(present[name] for name in self.names)

    def batch(self, run, events):
        """Return what the cells hold behind a batch, which is done by the handlers of a run."""
        cells = run[0]
        for name, argument in events:
            index = self.index(name)
            cells = self.fire(index, run[1][index][0], argument, cells)
        return cells

    def runs(self, row, fresh=False):
        """Return the runs of a row, the one ahead of it first."""
        found = [self.run(self.start, None, fresh)]
        for events in row:
            found.append(self.run(self.batch(found[-1], events), found[-1], fresh))
        return found

    def last(self, row, fresh=False):
        """Return the last run of a row."""
        return self.runs(row, fresh)[-1]

    # Point 7: what is right.

    def does(self, index, kept):
        """Return what tells a slot as it is kept from unlike ones."""
        if self.slots[index][0] == "memo":
            return kept[2]
        return [self.fire(index, kept[0], argument, cells)
                for argument in range(self.slots[index][2]) for cells in self.all_held]

    def right(self, run):
        """Return for each slot whether it is right in a run."""
        fresh = self.run(run[0], None, True)
        return [self.does(index, run[1][index]) == self.does(index, fresh[1][index])
                for index in range(len(self.slots))]

    # Point 8: steps.

    def behind(self, cells, together):
        """Return the set of what the cells may hold in the next run of the fresh part."""
        run = self.run(cells, None, True)
        if not together:
            return {self.batch(run, [event]) for event in self.events}
        found, new = set(), {cells}
        while new:
            done = {self.batch((one, run[1]), [event]) for one in new for event in self.events}
            new, found = done - found, found | done
        return found

    def steps(self, together):
        """Return the ascending list of all steps."""
        found, known, new = set(), set(), {self.start}
        while new:
            steps = {(one, other) for one in new for other in self.behind(one, together)}
            known |= new
            found |= steps
            new = {other for _, other in steps} - known
        return sorted(found)

    def at_step(self, index, step):
        """Return whether a slot turns at a step, and the set of names that change at it."""
        one, other = self.run(step[0], None, True), self.run(step[1], None, True)
        changed = {name for name, old, new in zip(self.names, step[0], step[1]) if old != new}
        changed |= {slot[1] for slot, old, new in zip(self.slots, one[1], other[1]) if old[2] != new[2]}
        turns = self.does(index, one[1][index]) != self.does(index, other[1][index])
        return turns, changed & set(self.ahead(index))

    # Point 9: the order.

    def rows(self, length, together=False):
        """Return all rows with some number of events, in order."""
        found = []
        for indexes in itertools.product(range(len(self.events)), repeat=length):
            for cuts in itertools.product((True, False), repeat=max(0, length - 1)):
                row = [[indexes[0]]] if length > 0 else []
                for cut, event in zip(cuts, indexes[1:]):
                    row = row + [[event]] if cut else row[:-1] + [row[-1] + [event]]
                if together or all(cuts):
                    found.append(row)
        return [[[self.events[event] for event in batch] for batch in row] for row in sorted(found)]

    def told(self, index, sets):
        """Return sets of names as lists, in order."""
        names = self.ahead(index)
        found = sorted((len(one), sorted(names.index(name) for name in one)) for one in sets)
        return [[names[place] for place in row] for _, row in found]

    # What the functions of the program answer, for rows of at most some events.

    def wrong_row(self, together, most):
        """Return the first row behind which a slot is not right."""
        for length in range(most + 1):
            for row in self.rows(length, together):
                if not all(self.right(self.last(row))):
                    return row
        return None

    def judge(self, table, together):
        """Return whether a list of steps has all that may come, and is without anything old."""
        for cells in [self.start] + [other for _, other in table]:
            if any((cells, other) not in table for other in self.behind(cells, together)):
                return False
        for step in table:
            for index, slot in enumerate(self.slots):
                turns, changed = self.at_step(index, step)
                if turns and not changed & set(slot[-1]):
                    return False
        return True

    def first_unlike(self, other, most):
        """Return the first plain row behind which two fresh parts show something unlike."""
        for length in range(most + 1):
            for row in self.rows(length):
                if self.last(row, True)[3] != other.last(row, True)[3]:
                    return row
        return None

    def machine(self, most):
        """Return the least machine, with states told by what is shown behind all rows of at most some events."""
        after = [row for length in range(most + 1) for row in self.rows(length)]
        states, marks, rows = [], [], [[]]
        for row in rows:
            mark = [self.last(row + more, True)[3] for more in after]
            if mark not in marks:
                marks.append(mark)
                rows.extend(row + [[event]] for event in self.events)
                states.append((mark[0], row))
        return [(shown, [marks.index([self.last(row + [[event]] + more, True)[3] for more in after])
                         for event in self.events]) for shown, row in states]

    def turning_all(self, index, together):
        """Return all sets of names that change at a step at which a slot turns."""
        told = [self.at_step(index, step) for step in self.steps(together)]
        return [changed for turns, changed in told if turns]

    def turning(self, index, together):
        """Return the least ones of these sets."""
        found = {frozenset(changed) for changed in self.turning_all(index, together)}
        return self.told(index, [one for one in found if not any(other < one for other in found)])

    def least_lists(self, index, together):
        """Return the least lists that have a name of each of these sets."""
        sets, names = self.turning_all(index, together), self.ahead(index)
        lists = [set(one) for length in range(len(names) + 1) for one in itertools.combinations(names, length)]
        right = [one for one in lists if all(one & other for other in sets)]
        return self.told(index, [one for one in right if not any(other < one for other in right)])

    def missing_row(self, index, names, together, most):
        """Return the first row at whose last step a slot turns and none of some names changes."""
        for length in range(1, most + 1):
            for row in self.rows(length, together):
                runs = self.runs(row, True)
                turns, changed = self.at_step(index, (runs[-2][0], runs[-1][0]))
                if turns and not changed & set(names):
                    return row
        return None

    def late_rows(self, name, most):
        """Return the first two plain rows behind which the handler of the first one is late."""
        index = self.index(name)
        for length in range(most + 1):
            for first in range(length + 1):
                for one in self.rows(first):
                    old = self.last(one, True)
                    for other in self.rows(length - first):
                        new = self.last(one + other, True)
                        for argument in range(self.slots[index][2]):
                            done = [self.fire(index, run[1][index][0], argument, new[0]) for run in (old, new)]
                            if done[0] != done[1]:
                                return one, other
        return None

    def cut_rows(self, most):
        """Return the first plain row and batch that leaves something else than its events one by one."""
        for length in range(most + 1):
            for size in range(1, length + 1):
                for row in self.rows(length - size):
                    for cut in self.rows(size):
                        batch = [event for events in cut for event in events]
                        if self.last(row + cut, True)[0] != self.last(row + [batch], True)[0]:
                            return row, batch
        return None
