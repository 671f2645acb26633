"""Texts of values and parts."""


def show_value(value):
    """Return the text of a value."""
    texts = []
    for kind, word in value.signs:
        if kind == "named":
            texts.append(word)
        elif kind == "now":
            texts.append("!" + word)
        elif kind == "passed":
            texts.append("?")
        elif kind == "number":
            texts.append(str(word))
        elif kind == "~":
            texts.append("~" + texts.pop())
        else:
            other = texts.pop()
            one = texts.pop()
            texts.append(f"({one} {kind} {other})")
    return texts.pop()


def show_slot(slot):
    """Return the text of a slot, with its list as it stands."""
    names = " ".join(slot.listed)
    if slot.many == 0:
        return f"memo {slot.name} {show_value(slot.value)} [{names}]"
    puts = ", ".join([f"{cell} < {show_value(value)}" for cell, value in slot.puts])
    return f"on {slot.name}:{slot.many} " + "{" + puts + "} [" + names + "]"


def show_part(part):
    """Return the text of a part."""
    cells = ["cells"] + [f"{name}:{size}" for name, size in part.cells]
    shown = ["show"] + [show_value(value) for value in part.showing]
    return "; ".join([" ".join(cells)] + [show_slot(slot) for slot in part.built] + [" ".join(shown)])
