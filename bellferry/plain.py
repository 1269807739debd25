"""The plain machine: one bell for all islands, and all ferries seen as they are."""

from bellferry.steps import after, wish
from bellferry.words import two_to
from bellferry.worlds import ferry_of, island_of


def first_stand(world):
    numbers = dict([(island[0], 0) for island in world[1]])
    words = dict([(island[0], dict(island[1])) for island in world[1]])
    given = dict([(ferry[0], []) for ferry in world[2]])
    taken = dict([(ferry[0], 0) for ferry in world[2]])
    return (numbers, words, given, taken)


# No dict or list within is shared, so that each stand is the asker's own.
def copy_of(stand):
    words = dict([(name, dict(stand[1][name])) for name in stand[1]])
    given = dict([(name, list(stand[2][name])) for name in stand[2]])
    return (dict(stand[0]), words, given, dict(stand[3]))


def wish_of(world, stand, name):
    return wish(world[0], island_of(world, name)[2], stand[0][name], stand[1][name])


def can_be(world, stand, asked):
    if asked[0] == "own":
        return True
    under_way = len(stand[2][asked[1]]) - stand[3][asked[1]]
    if asked[0] == "take":
        return under_way > 0
    return under_way < two_to(ferry_of(world, asked[1])[3])


# All is read from the stand as the round began; behind is what comes of the round.
def do_step(world, stand, name, asked, behind):
    word = None
    if asked[0] == "take":
        ferry = asked[1]
        word = stand[2][ferry][stand[3][ferry]]
        behind[3][ferry] = stand[3][ferry] + 1
    if asked[0] == "give":
        behind[2][asked[1]].append(asked[2])
    steps = island_of(world, name)[2]
    went = after(world[0], steps, stand[0][name], stand[1][name], word)
    behind[0][name] = went[0]
    behind[1][name] = went[1]


def round_of(world, stand):
    behind = copy_of(stand)
    names = []
    for island in world[1]:
        asked = wish_of(world, stand, island[0])
        if asked is not None and can_be(world, stand, asked):
            do_step(world, stand, island[0], asked, behind)
            names.append(island[0])
    return (behind, names)


def run_plain(world, n):
    stands = [first_stand(world)]
    for k in range(n):
        stands.append(round_of(world, stands[-1])[0])
    return stands


def waits_for(world, stand, name):
    asked = wish_of(world, stand, name)
    if asked is None or can_be(world, stand, asked):
        return None
    ferry = ferry_of(world, asked[1])
    return ferry[1] if asked[0] == "take" else ferry[2]


def chain(world, stand, name):
    names = [name]
    ahead = waits_for(world, stand, name)
    while ahead is not None:
        seen_before = ahead in names
        names.append(ahead)
        if seen_before:
            return names
        ahead = waits_for(world, stand, ahead)
    return names
