"""Worlds: made of islands and ferries, with all that is refused of them."""

from bellferry.errors import NoFerry, NoName, NoStep, NoWidth, NoWord, TooMany, Twice, Unknown
from bellferry.terms import size_of, vars_in
from bellferry.words import fits, is_width

MOST_LETTERS = 8
MOST_ISLANDS = 5
MOST_FERRIES = 6
MOST_VARS = 6
MOST_STEPS = 12
MOST_PARTS = 30
MOST_DEPTH = 8
MOST_K = 3
MOST_STAGES = 3


def is_name(text):
    return 1 <= len(text) <= MOST_LETTERS and all(["a" <= sign <= "z" for sign in text])


def refuse_name(text, earlier):
    if not is_name(text):
        raise NoName(f"{text!r} is no name")
    if text in earlier:
        raise Twice(f"{text!r} is a name already")


def refuse_unknown(name, known):
    if name not in known:
        raise Unknown(f"{name!r} is not known here")


def refuse_ferry_names(ferries):
    earlier = []
    for ferry in ferries:
        refuse_name(ferry[0], earlier)
        earlier.append(ferry[0])


def refuse_variables(width, pairs):
    earlier = []
    for pair in pairs:
        name = pair[0]
        refuse_name(name, earlier)
        earlier.append(name)
        if not fits(width, pair[1]):
            raise NoWord(f"the first word of {name!r} is none of the width")


def refuse_term(T, known):
    size = size_of(T)
    if size[0] > MOST_PARTS or size[1] > MOST_DEPTH:
        raise TooMany("a term has at most 30 parts and is at most 8 deep")
    for name in vars_in(T):
        refuse_unknown(name, known)


def refuse_step(step, known, count, ferry_names):
    if step[0] == "take":
        refuse_unknown(step[1], ferry_names)
        refuse_unknown(step[2], known)
    elif step[0] == "give":
        refuse_unknown(step[1], ferry_names)
        refuse_term(step[2], known)
    elif step[0] == "put":
        refuse_unknown(step[1], known)
        refuse_term(step[2], known)
    else:
        refuse_term(step[1], known)
        if not 0 <= step[2] <= count:
            raise NoStep("a jump leads to a step or to the count of them")


def refuse_island(width, island, ferry_names):
    if len(island[1]) > MOST_VARS:
        raise TooMany("an island has at most 6 variables")
    if len(island[2]) > MOST_STEPS:
        raise TooMany("an island has at most 12 steps")
    refuse_variables(width, island[1])
    known = [pair[0] for pair in island[1]]
    for step in island[2]:
        refuse_step(step, known, len(island[2]), ferry_names)


def refuse_islands(width, islands, ferry_names):
    earlier = list(ferry_names)
    for island in islands:
        refuse_name(island[0], earlier)
        earlier.append(island[0])
        refuse_island(width, island, ferry_names)


def refuse_ferry(ferry, island_names):
    refuse_unknown(ferry[1], island_names)
    refuse_unknown(ferry[2], island_names)
    if ferry[1] == ferry[2]:
        raise NoFerry("a ferry leads to another island")
    if not 0 <= ferry[3] <= MOST_K:
        raise NoFerry("a ferry's k is 0 to 3")
    if not 1 <= ferry[4] <= MOST_STAGES:
        raise NoFerry("a ferry has 1 to 3 stages")


def refuse_wrong_end(name, step, givers, takers):
    if step[0] == "take" and takers[step[1]] != name:
        raise NoFerry(f"{name!r} is not the taker")
    if step[0] == "give" and givers[step[1]] != name:
        raise NoFerry(f"{name!r} is not the giver")


def refuse_wrong_ends(islands, ferries):
    givers = dict([(ferry[0], ferry[1]) for ferry in ferries])
    takers = dict([(ferry[0], ferry[2]) for ferry in ferries])
    for island in islands:
        for step in island[2]:
            refuse_wrong_end(island[0], step, givers, takers)


# What is made keeps no list that the asker could change later.
def frozen(value):
    if isinstance(value, (list, tuple)):
        return tuple([frozen(part) for part in value])
    return value


def made(width, islands, ferries):
    if not is_width(width):
        raise NoWidth("a width is a whole number from 1 to 64")
    if len(islands) > MOST_ISLANDS:
        raise TooMany("a world has at most 5 islands")
    if len(ferries) > MOST_FERRIES:
        raise TooMany("a world has at most 6 ferries")
    refuse_ferry_names(ferries)
    refuse_islands(width, islands, [ferry[0] for ferry in ferries])
    island_names = [island[0] for island in islands]
    for ferry in ferries:
        refuse_ferry(ferry, island_names)
    refuse_wrong_ends(islands, ferries)
    return frozen((width, islands, ferries))


def one_called(row, name):
    for one in row:
        if one[0] == name:
            return one
    raise Unknown(f"{name!r} is not known here")


def island_of(world, name):
    return one_called(world[1], name)


def ferry_of(world, name):
    return one_called(world[2], name)


def ferries_at(world, name):
    refuse_unknown(name, [island[0] for island in world[1]])
    return [ferry[0] for ferry in world[2] if name in (ferry[1], ferry[2])]
