"""Texts: worlds written as rows of words, and read again."""

from bellferry.errors import NoText
from bellferry.worlds import made

MOST_FIGURES = 20

# The forms of terms that hold others, and how many.
PARTS = {"plus": 2, "minus": 2, "times": 2, "less": 2, "same": 2, "pick": 3}


def term_words(T):
    if T[0] == "num" or T[0] == "var":
        return [T[0], str(T[1])]
    words = [T[0]]
    for part in T[1:]:
        words.extend(term_words(part))
    return words


def step_words(step):
    if step[0] == "take":
        return list(step)
    if step[0] == "jump":
        return ["jump", str(step[2])] + term_words(step[1])
    return [step[0], step[1]] + term_words(step[2])


def island_rows(island):
    rows = [["island", island[0]]]
    rows.extend([["var", pair[0], str(pair[1])] for pair in island[1]])
    rows.extend([step_words(step) for step in island[2]])
    return rows


def written(world):
    rows = [["width", str(world[0])]]
    for island in world[1]:
        rows.extend(island_rows(island))
    for ferry in world[2]:
        rows.append(["ferry", ferry[0], ferry[1], ferry[2], str(ferry[3]), str(ferry[4])])
    return "\n".join([" ".join(row) for row in rows])


def refuse_length(words, count):
    if len(words) != count:
        raise NoText("a row or a term has a word too few or too many")


def read_number(word):
    if not 1 <= len(word) <= MOST_FIGURES or not all(["0" <= sign <= "9" for sign in word]):
        raise NoText(f"{word!r} is no number of 1 to 20 figures")
    if word[0] == "0" and word != "0":
        raise NoText(f"{word!r} has a nought ahead")
    return int(word)


def read_num(word):
    if not word.startswith("-"):
        return read_number(word)
    if word == "-0":
        raise NoText("nought has no sign ahead")
    return -read_number(word[1:])


def read_leaf(words):
    refuse_length(words, 2)
    if words[0] == "num":
        return ("num", read_num(words[1]))
    if words[0] == "var":
        return ("var", words[1])
    form = words[0]
    raise NoText(f"{form!r} is no form of a term")


# Told in the order of the text, as a variable may be called like a form:
# only from the left it can be seen which of the two a word is.
def marks_of(words):
    marks = []
    place = 0
    while place < len(words):
        if words[place] in PARTS:
            marks.append(words[place])
            place = place + 1
        else:
            marks.append(read_leaf(words[place:place + 2]))
            place = place + 2
    return marks


# From the last mark to the first, so that the parts of each form are there
# already and no call goes deeper, however deep the words of a text go.
def read_term(words):
    behind = []
    for mark in reversed(marks_of(words)):
        if isinstance(mark, tuple):
            behind.append(mark)
        elif len(behind) < PARTS[mark]:
            raise NoText(f"{mark!r} has a part too few")
        else:
            parts = [behind.pop() for k in range(PARTS[mark])]
            behind.append((mark,) + tuple(parts))
    refuse_length(behind, 1)
    return behind[0]


def read_step(words):
    if words[0] not in ("take", "give", "put", "jump"):
        raise NoText("no row begins like this, or not at this place")
    if len(words) < 3:
        raise NoText("a step has a word too few")
    if words[0] == "take":
        refuse_length(words, 3)
        return ("take", words[1], words[2])
    T = read_term(words[2:])
    if words[0] == "jump":
        return ("jump", T, read_number(words[1]))
    return (words[0], words[1], T)


def read_pair(words):
    refuse_length(words, 3)
    return (words[1], read_number(words[2]))


def read_ferry(words):
    refuse_length(words, 6)
    return (words[1], words[2], words[3], read_number(words[4]), read_number(words[5]))


def read_width(words):
    if words[0] != "width":
        raise NoText("the first row tells the width")
    refuse_length(words, 2)
    return read_number(words[1])


# An island is begun with no variable and no step; the rows behind it add them.
def read_row(words, islands, ferries):
    if words[0] == "ferry":
        ferries.append(read_ferry(words))
    elif len(ferries) > 0:
        raise NoText("behind the ferries there are ferries alone")
    elif words[0] == "island":
        refuse_length(words, 2)
        islands.append((words[1], [], []))
    elif len(islands) == 0:
        raise NoText("variables and steps stand behind an island")
    elif words[0] == "var":
        if len(islands[-1][2]) > 0:
            raise NoText("variables stand ahead of the steps")
        islands[-1][1].append(read_pair(words))
    else:
        islands[-1][2].append(read_step(words))


def read(text):
    rows = [row.split(" ") for row in text.split("\n")]
    for row in rows:
        if "" in row:
            raise NoText("words are parted by one blank, and a row has one word at least")
    width = read_width(rows[0])
    islands = []
    ferries = []
    for row in rows[1:]:
        read_row(row, islands, ferries)
    return made(width, islands, ferries)
