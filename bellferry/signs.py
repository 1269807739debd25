"""Signs that one side shows, and the late sights of them that the other side has."""

from bellferry.words import amid


def first_sign(word):
    return (word, word, -1)


def shown(sign, word, moment):
    return (word, sign[0], moment)


def first_sight(word, stages):
    return (word,) * stages


def sampled(sign, since, choice):
    if sign[2] > since:
        return amid(sign[1], sign[0], choice)
    return sign[0]


def moved(sight, word):
    return ((word,) + sight)[:-1]


def used(sight):
    return sight[-1]
