"""Plans of parts that are drawn, each by its number, so that every run of the tests draws the same ones."""

import random

from beside import Plan

CELLS = ["n", "b", "k", "e", "d"]
SLOTS = ["s", "a", "m", "z", "c"]


def caught_in(tree):
    """Return the set of names in `named` in a tree."""
    if isinstance(tree, int):
        return set()
    if tree[0] == "named":
        return {tree[1]}
    return {name for one in tree[1:] if isinstance(one, tuple) for name in caught_in(one)}


class Drawing:
    """One plan that is drawn: counters, guards, memos of memos, and lists that often miss something."""

    def __init__(self, seed, most=8, events=3, signs=3):
        self.draw = random.Random(seed)
        self.left = events
        self.signs = signs
        self.cells = []
        while not self.cells or self.size() > most:
            names = self.draw.sample(CELLS, self.draw.randint(1, 3))
            self.cells = [(name, self.draw.randint(2, min(6, most))) for name in names]
        self.names = [name for name, _ in self.cells]
        self.known = list(self.names)
        self.care = self.draw.choice([0.5, 0.8, 1])

    def size(self):
        """Return the product of the sizes of the cells."""
        product = 1
        for _, size in self.cells:
            product *= size
        return product

    def leaf(self, events):
        """Return a tree without a sign."""
        kind = self.draw.random()
        if events and kind < 0.35:
            return ("now", self.draw.choice(self.names))
        if events and kind < 0.45:
            return ("passed",)
        return ("named", self.draw.choice(self.known)) if kind < 0.9 else self.draw.randint(-3, 3)

    def tree(self, events, signs):
        """Return a tree with some signs."""
        if signs <= 0:
            return self.leaf(events)
        sign = self.draw.choice(["+", "-", "*", "*", "&", "|", "=", "=", "<", "~", "//", "mod"])
        first = self.draw.randint(0, signs - 1)
        if sign == "~":
            return (sign, self.tree(events, signs - 1))
        if sign in ("//", "mod"):
            return (sign, self.tree(events, signs - 1), self.draw.randint(1, 4))
        return (sign, self.tree(events, first), self.tree(events, signs - 1 - first))

    def put(self):
        """Return a put that mostly counts, or counts where something holds."""
        cell = self.draw.choice(self.names)
        count = self.draw.choice([1, 1, -1, ("passed",)])
        if self.draw.random() < 0.6:
            count = ("*", self.tree(True, self.signs - 2), count)
        return cell, ("+", self.draw.choice([("now", cell), ("named", cell), ("named", cell), 0]), count)

    def beside(self, used):
        """Return a list that has most of what is used, and little else."""
        names = [name for name in self.known if self.draw.random() < (self.care if name in used else 0.1)]
        self.draw.shuffle(names)
        return names

    def slot(self, name):
        """Return a slot."""
        if self.left > 0 and self.draw.random() < 0.6:
            number = self.draw.randint(1, min(3, self.left))
            self.left -= number
            puts = [self.put() for _ in range(self.draw.randint(1, 3))]
            return ("on", name, number, puts, self.beside({one for _, tree in puts for one in caught_in(tree)}))
        tree = self.tree(False, self.draw.randint(0, self.signs))
        slot = ("memo", name, tree, self.beside(caught_in(tree)))
        self.known.append(name)
        return slot

    def plan(self):
        """Return the plan."""
        slots = [self.slot(name) for name in self.draw.sample(SLOTS, self.draw.randint(2, 4))]
        return Plan(self.cells, slots, [self.tree(False, self.draw.randint(0, 2)) for _ in range(2)])

    def row(self, plan):
        """Return a row of batches of up to three events."""
        if not plan.events:
            return []
        return [[self.draw.choice(plan.events) for _ in range(self.draw.randint(1, 3))]
                for _ in range(self.draw.randint(0, 10))]


def drawn(first, last, **bounds):
    """Return tuples of a plan and its drawing, for some numbers."""
    drawings = [Drawing(seed, **bounds) for seed in range(first, last)]
    return [(drawing.plan(), drawing) for drawing in drawings]
