"""Runs of a part: which slots are made and which are kept, and what events do."""

from elderruns.errors import EmptyBatch, InvalidArgument, UnknownHandler
from elderruns.signs import reckon


class Made:
    """A slot as it was made in a run; it never changes.

    `caught` has the integers of all cells and memos ahead in that run, `since` is the index of
    the run, and `worth` the integer of a memo.
    """

    def __init__(self, slot, caught, since):
        self.slot = slot
        self.caught = caught
        self.since = since
        self.worth = None
        if slot.many == 0:
            self.worth = reckon(slot.value.signs, caught, {}, 0)


class Run:
    """A run of a part; it never changes.

    `index` is the number of the runs before it, `present` the dict of what the cells hold, `held`
    the dict of the integers of all cells and memos, `kept` the list of the slots as they are now,
    `made` the list of the names of those that were made in it, and `shows` what is shown.
    """

    def __init__(self, index, present, held, kept, shows):
        self.index = index
        self.present = present
        self.held = held
        self.kept = kept
        self.made = [one.slot.name for one in kept if one.since == index]
        self.shows = shows


def check_event(part, name, argument):
    """Raise the error that is due for an event."""
    numbers = dict(part.handlers)
    if name not in numbers:
        raise UnknownHandler(name)
    if not 0 <= argument < numbers[name]:
        raise InvalidArgument(argument)


def check_batch(part, index, batch):
    """Raise the first error that is due for the batch with an index."""
    if len(batch) == 0:
        raise EmptyBatch(index)
    for name, argument in batch:
        check_event(part, name, argument)


def stands(one, names, held):
    """Return True if some names stand for what they stood for when a slot was made."""
    return all([one.caught[name] == held[name] for name in names])


def run_with(part, present, before, anew):
    """Return the run with what the cells hold, behind another run (None: ahead of the first one).

    With `anew` each slot is made, as in the fresh part.
    """
    index = 0 if before is None else before.index + 1
    held = dict(present)
    kept = []
    for place, slot in enumerate(part.built):
        if anew or before is None or not stands(before.kept[place], slot.listed, held):
            kept.append(Made(slot, dict(held), index))
        else:
            kept.append(before.kept[place])
        if slot.many == 0:
            held[slot.name] = kept[place].worth
    return Run(index, present, held, kept, [reckon(value.signs, held, {}, 0) for value in part.showing])


def first_run(part, anew):
    """Return the run ahead of all batches."""
    return run_with(part, {name: 0 for name, _ in part.cells}, None, anew)


def fired(part, one, argument, present):
    """Return what the cells hold behind an event, which is done by a handler as it was made."""
    sizes = dict(part.cells)
    cells = dict(present)
    for cell, value in one.slot.puts:
        cells[cell] = reckon(value.signs, one.caught, cells, argument) % sizes[cell]
    return cells


def handlers_of(part, run, batch):
    """Return for each event of a batch the handler of a run that does it, with the argument."""
    return [(run.kept[part.place_of(name)], argument) for name, argument in batch]


def run_behind(part, run, firings, anew):
    """Return the run behind another one and some handlers, each fired with an argument."""
    present = run.present
    for one, argument in firings:
        present = fired(part, one, argument, present)
    return run_with(part, present, run, anew)


def runs_behind(part, row, anew):
    """Return the list of the runs of a row, the one ahead of it first."""
    for index, batch in enumerate(row):
        check_batch(part, index, batch)
    runs = [first_run(part, anew)]
    for batch in row:
        latest = runs[-1]
        runs.append(run_behind(part, latest, handlers_of(part, latest, batch), anew))
    return runs
