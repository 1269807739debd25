"""What more than one test file needs."""

import copy

TWOS = ("plus", "minus", "times", "less", "same")


def mixed(count, bits, start=1):
    """A fixed row of whole numbers of up to so many bits, with little order in it."""
    row = []
    state = start
    for _ in range(count):
        number = 0
        for _ in range(bits // 16 + 1):
            state = (state * 1103515245 + 12345) % 2 ** 31
            number = number * 2 ** 16 + state // 2 ** 15
        row.append(number % 2 ** bits)
    return row


def is_whole(value):
    return type(value) is int


def num(n):
    return ("num", n)


def var(name):
    return ("var", name)


def deep(depth, form="plus"):
    term = var("a")
    for k in range(depth - 1):
        if form == "pick":
            term = ("pick", num(k % 2), num(k), term) if k % 3 else ("pick", term, num(k), var("b"))
        else:
            term = (form, term, num(k)) if k % 2 else (form, num(k), term)
    return term


def worth_by_hand(term, width, words):
    """Another way to the same worth: all parts first, each cut with a mask."""
    if term[0] == "num":
        return term[1] & (2 ** width - 1)
    if term[0] == "var":
        return words[term[1]]
    parts = [worth_by_hand(part, width, words) for part in term[1:]]
    told = {
        "plus": lambda: (parts[0] + parts[1]) & (2 ** width - 1),
        "minus": lambda: (parts[0] - parts[1]) & (2 ** width - 1),
        "times": lambda: (parts[0] * parts[1]) & (2 ** width - 1),
        "less": lambda: int(parts[0] < parts[1]),
        "same": lambda: int(parts[0] == parts[1]),
        "pick": lambda: parts[1] if parts[0] else parts[2],
    }
    return told[term[0]]()


def grown(row, depth):
    """A term that the numbers of a row choose; the row is used up from its end."""
    choice = row.pop() if row else 0
    if depth == 1 or choice % 8 < 2:
        return num(row.pop() - 200 if row else 3) if choice % 2 else var("abc"[choice % 3])
    if choice % 8 == 7:
        return ("pick", grown(row, depth - 1), grown(row, depth - 1), grown(row, depth - 1))
    return (TWOS[choice % 5], grown(row, depth - 1), grown(row, depth - 1))


def grown_steps(row, takes, gives):
    """Steps over the variables a, b and c, with the ferries that an island may take from and give to."""
    count = row.pop() % 13
    steps = []
    for _ in range(count):
        choice = row.pop() % 8
        if choice < 3 and takes:
            steps.append(("take", takes[row.pop() % len(takes)], "abc"[row.pop() % 3]))
        elif choice < 6 and gives:
            steps.append(("give", gives[row.pop() % len(gives)], grown(row, 3)))
        elif choice == 7:
            steps.append(("jump", grown(row, 3), row.pop() % (count + 1)))
        else:
            steps.append(("put", "abc"[row.pop() % 3], grown(row, 3)))
    return steps


def grown_world(start):
    """A width, islands and ferries that are let by; a whole number chooses them."""
    row = mixed(3000, 9, start)
    width = (1, 2, 8, 33, 64)[row.pop() % 5]
    names = ["oak", "elm", "ash", "fir", "yew"][:1 + row.pop() % 5]
    ferries = []
    for name in ["rf", "sf", "tf", "uf", "vf", "wf"][:row.pop() % 7 if len(names) > 1 else 0]:
        giver = row.pop() % len(names)
        taker = (giver + 1 + row.pop() % (len(names) - 1)) % len(names)
        ferries.append((name, names[giver], names[taker], row.pop() % 4, 1 + row.pop() % 3))
    islands = []
    for name in names:
        pairs = [(letter, row.pop() % 2 ** width) for letter in "abc"]
        takes = [ferry[0] for ferry in ferries if ferry[2] == name]
        gives = [ferry[0] for ferry in ferries if ferry[1] == name]
        islands.append((name, pairs, grown_steps(row, takes, gives)))
    return (width, islands, ferries)


def round_by_hand(world, stand):
    """Another way to a round: which ferries let it is asked of all of them ahead of any step."""
    width, islands, ferries = world
    numbers, words, given, taken = copy.deepcopy(stand)
    under_way = {ferry[0]: len(given[ferry[0]]) - taken[ferry[0]] for ferry in ferries}
    room = {ferry[0]: 2 ** ferry[3] - under_way[ferry[0]] for ferry in ferries}
    did = []
    for name, _, steps in islands:
        if numbers[name] == len(steps):
            continue
        form, first, second = steps[numbers[name]]
        own = words[name]
        numbers[name] += 1
        did.append(name)
        if form == "put":
            own[first] = worth_by_hand(second, width, own)
        elif form == "jump" and worth_by_hand(first, width, own):
            numbers[name] = second
        elif form == "take" and under_way[first]:
            own[second] = given[first][taken[first]]
            taken[first] += 1
        elif form == "give" and room[first]:
            given[first].append(worth_by_hand(second, width, own))
        elif form in ("take", "give"):
            numbers[name] -= 1
            did.pop()
    return ((numbers, words, given, taken), did)


def busy_world(start):
    """A world that goes on for ever: all islands give and take in the order of one row of journeys, then begin anew."""
    row = mixed(600, 12, start)
    width = (3, 8, 64)[row.pop() % 3]
    names = ["oak", "elm", "ash", "fir", "yew"][:2 + row.pop() % 4]
    ferries = []
    for name in ["rf", "sf", "tf", "uf", "vf", "wf"][:1 + row.pop() % 6]:
        giver = row.pop() % len(names)
        taker = (giver + 1 + row.pop() % (len(names) - 1)) % len(names)
        ferries.append((name, names[giver], names[taker], row.pop() % 4, 1 + row.pop() % 3))
    steps = {name: [] for name in names}
    for _ in range(1 + row.pop() % 9):
        ferry, giver, taker = ferries[row.pop() % len(ferries)][:3]
        steps[giver].append(("give", ferry, ("plus", var("a"), num(row.pop()))))
        steps[taker].append(("take", ferry, "ab"[row.pop() % 2]))
    islands = []
    for name in names:
        own = ("put", "a", ("minus", ("times", var("a"), num(row.pop())), var("b")))
        at = row.pop() % (len(steps[name]) + 1)
        body = steps[name][:at] + [own] + steps[name][at:]
        islands.append((name, [("a", row.pop() % 8), ("b", row.pop() % 8)], body + [("jump", num(1), 0)]))
    return (width, islands, ferries)


def rings_of(names, count, start):
    """A row of rings of these bells: by turns, in bursts, or with some bells that ring seldom."""
    row = mixed(3 * count, 12, start)
    bells = []
    while names and len(bells) < count:
        name = names[row.pop() % len(names)]
        if start % 4 == 0:
            name = names[len(bells) % len(names)]
        if start % 4 == 1 and name == names[0] and row.pop() % 16:
            name = names[-1]
        bells.extend([name] * (1 + row.pop() % 5 if start % 4 == 2 else 1))
    return bells[:count]


def code_by_hand(bits):
    """The told code, made by laying it beside itself turned over."""
    code = [0]
    for bit in range(bits):
        code = code + [2 ** bit + word for word in reversed(code)]
    return code


def amid_by_hand(old, new, choice):
    return sum(2 ** k * ((new if choice >> k & 1 else old) >> k & 1) for k in range(64))


class FerryByHand:
    """A ferry that keeps all that ever was, and looks up there what a side shows and uses."""

    def __init__(self, k, stages):
        self.size, self.stages = 2 ** k, stages
        self.code = code_by_hand(k + 1)
        self.given, self.taken = [], []
        # Of each side: the moments of its rings, its counts behind them, what it sampled at them.
        self.moments = {"giver": [-1], "taker": [-1]}
        self.shown = {"giver": [0, 0], "taker": [0, 0]}
        self.sampled = {"giver": [], "taker": []}
        self.places = [[0] * self.size] * 2

    def used(self, side):
        seen = self.sampled[side]
        return self.code.index(seen[-self.stages]) if len(seen) >= self.stages else 0

    def changed(self, side, other):
        return self.moments[other][-1] > self.moments[side][-1]

    def ring(self, side, other, moment, choice, count):
        ahead, now = [self.code[shown % len(self.code)] for shown in self.shown[other][-2:]]
        self.sampled[side].append(amid_by_hand(ahead, now, choice) if self.changed(side, other) else now)
        self.moments[side].append(moment)
        self.shown[side].append(count)
        return self.sampled[side][-1]

    def ring_giver(self, moment, choice, word):
        room = (len(self.given) - self.used("giver")) % (2 * self.size) < self.size
        gives = word is not None and room
        places = list(self.places[-1])
        if gives:
            places[len(self.given) % self.size] = word
            self.given.append(word)
        self.places.append(places)
        return (gives, self.ring("giver", "taker", moment, choice, len(self.given)))

    def ring_taker(self, moment, choice, wished):
        word = None
        if wished and self.used("taker") != len(self.taken) % (2 * self.size):
            ahead, now = [places[len(self.taken) % self.size] for places in self.places[-2:]]
            word = amid_by_hand(ahead, now, choice) if self.changed("taker", "giver") else now
            self.taken.append(word)
        return (word, self.ring("taker", "giver", moment, choice, len(self.taken)))


class RunByHand:
    """A run on such ferries; each island stands in a dict, and the ferry of its step is looked at first."""

    def __init__(self, world):
        self.width, islands, self.rows = world
        self.isles = {name: {"steps": steps, "at": 0, "words": dict(pairs), "did": 0} for name, pairs, steps in islands}
        self.ferries = {row[0]: FerryByHand(row[3], row[4]) for row in self.rows}
        self.rung = []

    def ring(self, name, choice):
        isle = self.isles[name]
        number, own = isle["at"], isle["words"]
        form, first, second = isle["steps"][number] if number < len(isle["steps"]) else ("done", None, None)
        what = ("own",) if form in ("put", "jump") else ("done",) if form == "done" else ("wait", first)
        samples = []
        for j, (ferry, giver, taker, _, _) in enumerate(self.rows):
            moment, bits = len(self.rung), choice >> 8 * j
            if giver == name:
                word = worth_by_hand(second, self.width, own) if form == "give" and first == ferry else None
                gave, seen = self.ferries[ferry].ring_giver(moment, bits, word)
                what = ("give", ferry, word) if gave else what
                samples.append((ferry, seen))
            if taker == name:
                word, seen = self.ferries[ferry].ring_taker(moment, bits, form == "take" and first == ferry)
                what = what if word is None else ("take", ferry, word)
                samples.append((ferry, seen))
        self.rung.append(name)
        if what[0] in ("take", "give", "own"):
            isle["did"] += 1
            isle["at"] += 1
        if what[0] == "take":
            own[second] = what[2]
        if form == "put":
            own[first] = worth_by_hand(second, self.width, own)
        if form == "jump" and worth_by_hand(first, self.width, own):
            isle["at"] = second
        return (name, number, what, samples)
