"""What more than one test file needs."""


def mixed(count, bits, start=1):
    """A fixed row of whole numbers of up to so many bits, with little order in it."""
    row = []
    state = start
    for _ in range(count):
        number = 0
        for _ in range(bits // 16 + 1):
            state = (state * 1103515245 + 12345) % 2 ** 31
            number = number * 2 ** 16 + state // 2 ** 15
        row.append(number % 2 ** bits)
    return row


def is_whole(value):
    return type(value) is int
