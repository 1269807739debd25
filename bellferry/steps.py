"""Steps: what an island wishes for next, and how it goes on."""

from bellferry.terms import worth


def wish(width, steps, number, words):
    if number == len(steps):
        return None
    step = steps[number]
    if step[0] == "take":
        return ("take", step[1])
    if step[0] == "give":
        return ("give", step[1], worth(step[2], width, words))
    return ("own",)


def number_after(width, steps, number, words):
    step = steps[number]
    if step[0] == "jump" and worth(step[1], width, words) != 0:
        return step[2]
    return number + 1


def words_after(width, step, words, word):
    # A copy, as the words handed in are not to change.
    behind = dict(words)
    if step[0] == "take":
        behind[step[2]] = word
    if step[0] == "put":
        behind[step[1]] = worth(step[2], width, words)
    return behind


def after(width, steps, number, words, word):
    return (number_after(width, steps, number, words), words_after(width, steps[number], words, word))
