"""A screen by the letter of the document, for a plan: it keeps all of its runs and reckons with plain tuples."""


class Shadow:
    """A screen of a plan. A held handler is a tuple of its index, of what it caught, and of its run."""

    def __init__(self, plan):
        self.plan = plan
        self.runs = [plan.run(plan.start)]
        self.sinces = [[0] * len(plan.slots)]

    def go_on(self, cells):
        """Go on to the run with what the cells hold, and return what is shown."""
        index, run = len(self.runs), self.plan.run(cells, self.runs[-1])
        self.sinces.append([index if slot[1] in run[2] else since
                            for slot, since in zip(self.plan.slots, self.sinces[-1])])
        self.runs.append(run)
        return run[3]

    def batch(self, events):
        """Do a batch by the handlers of the latest run."""
        return self.go_on(self.plan.batch(self.runs[-1], events))

    def held(self, name):
        """Return the handler as it is kept."""
        index = self.plan.index(name)
        return index, self.runs[-1][1][index][0], self.sinces[-1][index]

    def fire(self, held, argument):
        """Do a batch of one event by a held handler."""
        return self.go_on(self.plan.fire(held[0], held[1], argument, self.runs[-1][0]))

    def undo(self):
        """Take back the latest batch."""
        self.runs.pop()
        self.sinces.pop()

    def is_right(self):
        """Return whether all slots are right in the latest run."""
        return all(self.plan.right(self.runs[-1]))

    def slots(self):
        """Return what tells the slots as they are kept: integers of memos, and what handlers caught."""
        return [kept[2] if slot[0] == "memo" else kept[0] for slot, kept in zip(self.plan.slots, self.runs[-1][1])]

    def told(self):
        """Return what a screen tells: the number of runs, the cells, what is shown, whether it is right, and its slots."""
        slots = [kept if slot[0] == "memo" else since
                 for slot, kept, since in zip(self.plan.slots, self.slots(), self.sinces[-1])]
        return len(self.runs), list(self.runs[-1][0]), self.runs[-1][3], self.is_right(), slots


def told_by(screen, plan):
    """Return the same for a screen of the program."""
    slots = [screen[slot[1]] if slot[0] == "memo" else screen[slot[1]].run for slot in plan.slots]
    return screen.runs, screen.cells, screen.shown, screen.is_right, slots
