"""Terms: their size, the variables that they read, and their worth."""

from bellferry.words import cut


def parts_within(T):
    if T[0] == "num" or T[0] == "var":
        return []
    return list(T[1:])


def size_of(T):
    parts = 1
    deepest = 0
    for part in parts_within(T):
        size = size_of(part)
        parts = parts + size[0]
        deepest = max(deepest, size[1])
    return (parts, deepest + 1)


def names_read(T):
    if T[0] == "var":
        return [T[1]]
    names = []
    for part in parts_within(T):
        names.extend(names_read(part))
    return names


def vars_in(T):
    return sorted(set(names_read(T)))


def worth_of_two(form, left, right, width):
    if form == "plus":
        return cut(width, left + right)
    if form == "minus":
        return cut(width, left - right)
    if form == "times":
        return cut(width, left * right)
    # A worth is a whole number, so the answer of a comparison is not told as it is.
    if form == "less":
        return 1 if left < right else 0
    return 1 if left == right else 0


def worth(T, width, words):
    if T[0] == "num":
        return cut(width, T[1])
    if T[0] == "var":
        return words[T[1]]
    first = worth(T[1], width, words)
    if T[0] == "pick":
        return worth(T[2] if first != 0 else T[3], width, words)
    return worth_of_two(T[0], first, worth(T[2], width, words), width)
