"""Widths, words of a width, and words that are seen amid a change."""

MOST_WIDTH = 64


# Python counts True and False among the ints; the program does not.
def is_whole(value):
    return isinstance(value, int) and not isinstance(value, bool)


def is_width(number):
    return is_whole(number) and 1 <= number <= MOST_WIDTH


def two_to(exponent):
    answer = 1
    for k in range(exponent):
        answer = answer * 2
    return answer


def fits(width, number):
    return is_whole(number) and 0 <= number < two_to(width)


def cut(width, number):
    return number % two_to(width)


# Only bits in which the words are unlike can be turned, so a choice of any
# length never adds a bit that neither word has.
def amid(old, new, choice):
    return old ^ ((old ^ new) & choice)
