"""Codes: rows of words whose neighbours may be unlike in one bit alone."""

from bellferry.errors import NoCode
from bellferry.words import amid, fits, two_to

CODE_WIDTH = 16
FEWEST_WORDS = 2
MOST_WORDS = 64


def code_of(n):
    return n ^ (n // 2)


# Each bit of n is the xor of the word's bits from there up.
def number_of(word):
    n = word
    above = word // 2
    while above > 0:
        n = n ^ above
        above = above // 2
    return n


def told_code(m):
    return [code_of(n) for n in range(two_to(m))]


def refuse_no_code(code):
    if not FEWEST_WORDS <= len(code) <= MOST_WORDS:
        raise NoCode("a code has 2 to 64 words")
    for word in code:
        if not fits(CODE_WIDTH, word):
            raise NoCode("each word of a code has the width 16")
    if len(set(code)) != len(code):
        raise NoCode("no two words of a code are alike")


def tear(code):
    refuse_no_code(code)
    for k in range(len(code)):
        old = code[k]
        new = code[(k + 1) % len(code)]
        unlike = old ^ new
        # Less one borrows from the lowest 1, so this is all but that bit.
        others = unlike & (unlike - 1)
        if others != 0:
            return (k, amid(old, new, unlike - others))
    return None
