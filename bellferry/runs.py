"""Runs: a world that goes on ring by ring, each island with a bell of its own."""

from bellferry.ferries import Ferry
from bellferry.steps import after, wish
from bellferry.words import two_to
from bellferry.worlds import island_of, refuse_unknown

BITS_A_FERRY = 8


# What a ring tells unless a ferry lets the wish come true.
def what_alone(asked):
    if asked is None:
        return ("done",)
    if asked[0] == "own":
        return ("own",)
    return ("wait", asked[1])


def is_wish_of(asked, ferry_name):
    return asked is not None and asked[0] != "own" and asked[1] == ferry_name


def looked_up(named, name):
    refuse_unknown(name, named)
    return named[name]


class Run:
    def __init__(self, world):
        self.world = world
        self.moment = 0
        self.next_numbers = dict([(island[0], 0) for island in world[1]])
        self.words_now = dict([(island[0], dict(island[1])) for island in world[1]])
        self.steps_so_far = dict([(island[0], 0) for island in world[1]])
        self.boats = dict([(ferry[0], Ferry(ferry[3], ferry[4])) for ferry in world[2]])
        self.given_so_far = dict([(ferry[0], []) for ferry in world[2]])
        self.taken_so_far = dict([(ferry[0], []) for ferry in world[2]])

    def ring(self, name, choice):
        steps = island_of(self.world, name)[2]
        number = self.next_numbers[name]
        asked = wish(self.world[0], steps, number, self.words_now[name])
        what = what_alone(asked)
        samples = []
        for j in range(len(self.world[2])):
            ferry = self.world[2][j]
            if name in (ferry[1], ferry[2]):
                told = self.ring_ferry(ferry, name, choice // two_to(BITS_A_FERRY * j), asked)
                samples.append((ferry[0], told[1]))
                if told[0] is not None:
                    what = told[0]
        self.moment = self.moment + 1
        if what[0] not in ("done", "wait"):
            self.go_on(name, steps, what[2] if what[0] == "take" else None)
        return (name, number, what, samples)

    # Told are the wish as it came true here, or None, and the code word sampled.
    def ring_ferry(self, ferry, name, choice, asked):
        boat = self.boats[ferry[0]]
        wished = is_wish_of(asked, ferry[0])
        if ferry[1] == name:
            told = boat.ring_giver(self.moment, choice, asked[2] if wished else None)
            if not told[0]:
                return (None, told[1])
            self.given_so_far[ferry[0]].append(asked[2])
            return (asked, told[1])
        told = boat.ring_taker(self.moment, choice, wished)
        if told[0] is None:
            return told
        self.taken_so_far[ferry[0]].append(told[0])
        return (("take", ferry[0], told[0]), told[1])

    def go_on(self, name, steps, word):
        went = after(self.world[0], steps, self.next_numbers[name], self.words_now[name], word)
        self.next_numbers[name] = went[0]
        self.words_now[name] = went[1]
        self.steps_so_far[name] = self.steps_so_far[name] + 1

    def number(self, name):
        return looked_up(self.next_numbers, name)

    # A copy is told of each dict and list, as the run goes on and changes its own.
    def words(self, name):
        return dict(looked_up(self.words_now, name))

    def steps_done(self, name):
        return looked_up(self.steps_so_far, name)

    def given(self, name):
        return list(looked_up(self.given_so_far, name))

    def taken(self, name):
        return list(looked_up(self.taken_so_far, name))
