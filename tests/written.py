"""Texts of trees and plans, and the trees and plans that texts tell, by the letter of the document."""

import re

from beside import Plan

SIGNS = ["+", "-", "*", "//", "mod", "&", "|", "=", "<"]
NAME = "[a-z]{1,8}"
INTEGER = "0|-?[1-9][0-9]{0,19}"
SIZE = "[1-9][0-9]{0,2}"


def written(tree):
    """Return the text of a tree."""
    if isinstance(tree, int):
        return str(tree)
    if tree[0] in ("named", "now"):
        return {"named": "", "now": "!"}[tree[0]] + tree[1]
    if tree[0] == "passed":
        return "?"
    if tree[0] == "~":
        return "~" + written(tree[1])
    return "(" + written(tree[1]) + " " + tree[0] + " " + written(tree[2]) + ")"


def written_plan(plan):
    """Return the text of a plan."""
    text = "cells"
    for name, size in plan.cells:
        text += " " + name + ":" + str(size)
    for index, slot in enumerate(plan.slots):
        names = " ".join(name for name in plan.ahead(index) if name in slot[-1])
        if slot[0] == "memo":
            text += "; memo " + slot[1] + " " + written(slot[2]) + " [" + names + "]"
        else:
            puts = ", ".join(cell + " < " + written(tree) for cell, tree in slot[3])
            text += "; on " + slot[1] + ":" + str(slot[2]) + " {" + puts + "} [" + names + "]"
    return text + "; show" + "".join(" " + written(tree) for tree in plan.shown)


def parts_of(tree):
    """Return the tree and all trees within it."""
    return [tree] + ([one for part in tree[1:] if not isinstance(part, str) for one in parts_of(part)]
                     if isinstance(tree, tuple) else [])


def signs_of(tree):
    """Return the number of signs of a tree."""
    return sum(isinstance(one, tuple) and one[0] not in ("named", "now", "passed") for one in parts_of(tree))


def leaves(kind, tree):
    """Return the set of the names in a tree of one kind."""
    return {one[1] for one in parts_of(tree) if isinstance(one, tuple) and one[0] == kind}


def told_tree(text):
    """Return the tree with a text, None if there is none; each place for a sign is tried."""
    if re.fullmatch(INTEGER, text):
        return int(text)
    if re.fullmatch(NAME, text):
        return ("named", text)
    if re.fullmatch("!" + NAME, text):
        return ("now", text[1:])
    if text == "?":
        return ("passed",)
    if text[:1] == "~":
        one = told_tree(text[1:])
        return None if one is None else ("~", one)
    if text[:1] == "(" and text[-1:] == ")":
        for sign in SIGNS:
            for found in re.finditer(re.escape(" " + sign + " "), text):
                one, other = told_tree(text[1:found.start()]), told_tree(text[found.end():-1])
                by_integer = isinstance(other, int) and other >= 1
                if one is not None and other is not None and (by_integer or sign not in ("//", "mod")):
                    return (sign, one, other)
    return None


def read_tree(text):
    """Return the tree with a text that the program reads, None if there is none."""
    tree = told_tree(text)
    return None if tree is None or signs_of(tree) > 12 else tree


def shown_trees(text):
    """Return the trees in a text of shown values, None if there is none."""
    found = [[]]
    words = text.split(" ")[1:]
    # Values are told apart by trying how many of the words belong to the first one.
    for at in range(len(words)):
        found.append(None)
        for first in range(at + 1):
            tree = None if found[first] is None else read_tree(" ".join(words[first:at + 1]))
            if tree is not None:
                found[-1] = found[first] + [tree]
    return found[-1] if text[:1] in ("", " ") else None


def read_puts(text):
    """Return the puts in a text, None if there is none."""
    found = [re.fullmatch("([a-z]+) < (.*)", put) for put in text.split(", ")] if text else []
    puts = [one and (one[1], read_tree(one[2])) for one in found]
    return None if any(put is None or put[1] is None for put in puts) else puts


def read_slot(text):
    """Return the slot with a text, None if there is none."""
    names = "\\[((?:[a-z]+(?: [a-z]+)*)?)\\]"
    found = re.fullmatch(f"memo ({NAME}) (.*) {names}", text)
    if found:
        tree = read_tree(found[2])
        return None if tree is None else ("memo", found[1], tree, found[3].split())
    found = re.fullmatch(f"on ({NAME}):({SIZE}) {{(.*)}} {names}", text)
    puts = read_puts(found[3]) if found else None
    return None if puts is None else ("on", found[1], int(found[2]), puts, found[4].split())


def read_plan(text):
    """Return the plan with a text, None if there is none."""
    first, *middle = text.split("; ")
    if not middle or not re.fullmatch(f"cells( {NAME}:{SIZE})*", first) or middle[-1][:4] != "show":
        return None
    cells = [(name, int(size)) for name, size in re.findall("([a-z]+):([0-9]+)", first)]
    slots, shown = [read_slot(one) for one in middle[:-1]], shown_trees(middle[-1][4:])
    if shown is None or None in slots:
        return None
    plan = Plan(cells, slots, shown)
    return plan if holds(plan) else None


def holds(plan):
    """Return whether a part can be constructed of a plan, with its lists in order."""
    names = plan.names + [slot[1] for slot in plan.slots]
    good = [len(set(names)) == len(names)]
    for index, slot in enumerate(plan.slots):
        ahead, trees = plan.ahead(index), [slot[2]] if slot[0] == "memo" else [tree for _, tree in slot[3]]
        good.append(slot[-1] == [name for name in ahead if name in slot[-1]])
        for tree in trees:
            good.append(leaves("named", tree) <= set(ahead) and leaves("now", tree) <= set(plan.names))
            good.append(slot[0] == "on" or not (leaves("now", tree) or ("passed",) in parts_of(tree)))
        good.append(slot[0] == "memo" or {cell for cell, _ in slot[3]} <= set(plan.names))
    for tree in plan.shown:
        good.append(leaves("named", tree) <= set(plan.ahead(len(plan.slots))))
        good.append(not (leaves("now", tree) or ("passed",) in parts_of(tree)))
    return all(good)
