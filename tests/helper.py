"""What more than one test file needs."""

TWOS = ("plus", "minus", "times", "less", "same")


def mixed(count, bits, start=1):
    """A fixed row of whole numbers of up to so many bits, with little order in it."""
    row = []
    state = start
    for _ in range(count):
        number = 0
        for _ in range(bits // 16 + 1):
            state = (state * 1103515245 + 12345) % 2 ** 31
            number = number * 2 ** 16 + state // 2 ** 15
        row.append(number % 2 ** bits)
    return row


def is_whole(value):
    return type(value) is int


def num(n):
    return ("num", n)


def var(name):
    return ("var", name)


def deep(depth, form="plus"):
    term = var("a")
    for k in range(depth - 1):
        if form == "pick":
            term = ("pick", num(k % 2), num(k), term) if k % 3 else ("pick", term, num(k), var("b"))
        else:
            term = (form, term, num(k)) if k % 2 else (form, num(k), term)
    return term


def worth_by_hand(term, width, words):
    """Another way to the same worth: all parts first, each cut with a mask."""
    if term[0] == "num":
        return term[1] & (2 ** width - 1)
    if term[0] == "var":
        return words[term[1]]
    parts = [worth_by_hand(part, width, words) for part in term[1:]]
    told = {
        "plus": lambda: (parts[0] + parts[1]) & (2 ** width - 1),
        "minus": lambda: (parts[0] - parts[1]) & (2 ** width - 1),
        "times": lambda: (parts[0] * parts[1]) & (2 ** width - 1),
        "less": lambda: int(parts[0] < parts[1]),
        "same": lambda: int(parts[0] == parts[1]),
        "pick": lambda: parts[1] if parts[0] else parts[2],
    }
    return told[term[0]]()


def grown(row, depth):
    """A term that the numbers of a row choose; the row is used up from its end."""
    choice = row.pop() if row else 0
    if depth == 1 or choice % 8 < 2:
        return num(row.pop() - 200 if row else 3) if choice % 2 else var("abc"[choice % 3])
    if choice % 8 == 7:
        return ("pick", grown(row, depth - 1), grown(row, depth - 1), grown(row, depth - 1))
    return (TWOS[choice % 5], grown(row, depth - 1), grown(row, depth - 1))


def grown_steps(row, takes, gives):
    """Steps over the variables a, b and c, with the ferries that an island may take from and give to."""
    count = row.pop() % 13
    steps = []
    for _ in range(count):
        choice = row.pop() % 8
        if choice < 3 and takes:
            steps.append(("take", takes[row.pop() % len(takes)], "abc"[row.pop() % 3]))
        elif choice < 6 and gives:
            steps.append(("give", gives[row.pop() % len(gives)], grown(row, 3)))
        elif choice == 7:
            steps.append(("jump", grown(row, 3), row.pop() % (count + 1)))
        else:
            steps.append(("put", "abc"[row.pop() % 3], grown(row, 3)))
    return steps


def grown_world(start):
    """A width, islands and ferries that are let by; a whole number chooses them."""
    row = mixed(3000, 9, start)
    width = (1, 2, 8, 33, 64)[row.pop() % 5]
    names = ["oak", "elm", "ash", "fir", "yew"][:1 + row.pop() % 5]
    ferries = []
    for name in ["rf", "sf", "tf", "uf", "vf", "wf"][:row.pop() % 7 if len(names) > 1 else 0]:
        giver = row.pop() % len(names)
        taker = (giver + 1 + row.pop() % (len(names) - 1)) % len(names)
        ferries.append((name, names[giver], names[taker], row.pop() % 4, 1 + row.pop() % 3))
    islands = []
    for name in names:
        pairs = [(letter, row.pop() % 2 ** width) for letter in "abc"]
        takes = [ferry[0] for ferry in ferries if ferry[2] == name]
        gives = [ferry[0] for ferry in ferries if ferry[1] == name]
        islands.append((name, pairs, grown_steps(row, takes, gives)))
    return (width, islands, ferries)
