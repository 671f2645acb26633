"""The signs of values: what each one stands for, in one case or in many at once.

The signs of a value are tuples of a kind and a word, each behind the parts that it joins.
"""


def added(one, other):
    """Return the sum of two integers."""
    return one + other


def taken(one, other):
    """Return the difference of two integers."""
    return one - other


def times(one, other):
    """Return the product of two integers."""
    return one * other


def quotient(one, other):
    """Return the quotient of two integers, rounded down."""
    return one // other


def remainder(one, other):
    """Return what is left by the quotient of two integers."""
    return one % other


def both(one, other):
    """Return 1 if both integers are not 0, otherwise 0."""
    return int(one != 0 and other != 0)


def either(one, other):
    """Return 1 if at least one integer is not 0, otherwise 0."""
    return int(one != 0 or other != 0)


def equal(one, other):
    """Return 1 if two integers are equal, otherwise 0."""
    return int(one == other)


def below(one, other):
    """Return 1 if an integer is less than the other one, otherwise 0."""
    return int(one < other)


SIGNS = {"+": added, "-": taken, "*": times, "//": quotient, "mod": remainder, "&": both, "|": either, "=": equal,
         "<": below}


def reckon(signs, held, present, argument):
    """Return the integer of a value, for what its names and the cells now stand for, and an argument."""
    stack = []
    for kind, word in signs:
        if kind == "named":
            stack.append(held[word])
        elif kind == "now":
            stack.append(present[word])
        elif kind == "passed":
            stack.append(argument)
        elif kind == "number":
            stack.append(word)
        elif kind == "~":
            stack.append(int(stack.pop() == 0))
        else:
            action = SIGNS[kind]
            other = stack.pop()
            stack.append(action(stack.pop(), other))
    return stack.pop()


def reckon_all(signs, held, present, arguments):
    """Return the list of the integers of a value in many cases.

    The names stand for the same in all cases; what the cells hold now, and the arguments, are
    lists that have an integer for each case. What is returned is only read by the callers.
    """
    many = len(arguments)
    stack = []
    for kind, word in signs:
        if kind == "named":
            stack.append([held[word]] * many)
        elif kind == "now":
            stack.append(present[word])
        elif kind == "passed":
            stack.append(arguments)
        elif kind == "number":
            stack.append([word] * many)
        elif kind == "~":
            stack.append([int(n == 0) for n in stack.pop()])
        else:
            action = SIGNS[kind]
            other = stack.pop()
            one = stack.pop()
            stack.append([action(a, b) for a, b in zip(one, other)])
    return stack.pop()
