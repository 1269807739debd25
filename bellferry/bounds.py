"""Bounds: how far a run of a row of rings has come at least, and at most."""

from bellferry.plain import first_stand, round_of


def stretches(world, names):
    every = [island[0] for island in world[1]]
    ended = 0
    missing = list(every)
    for name in names:
        if name in missing:
            missing.remove(name)
            if len(missing) == 0:
                ended = ended + 1
                missing = list(every)
    return ended


def track(world, n):
    stand = first_stand(world)
    rows = dict([(island[0], [(0, dict(island[1]))]) for island in world[1]])
    for k in range(n):
        told = round_of(world, stand)
        stand = told[0]
        for name in told[1]:
            rows[name].append((stand[0][name], dict(stand[1][name])))
    return rows


def steps_behind(world, n):
    rows = track(world, n)
    return dict([(name, len(rows[name]) - 1) for name in rows])


# What is shown in one stretch is sampled two stretches later at the latest,
# and is used one more later for each stage.
def stretches_a_round(world):
    return max([ferry[4] for ferry in world[2]], default=0) + 2


def bounds(world, names):
    rounds = stretches(world, names) // stretches_a_round(world)
    return (steps_behind(world, rounds), steps_behind(world, len(names)))
