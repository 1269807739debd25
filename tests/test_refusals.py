"""What a world is refused for, each fault by itself and any two of them at once."""

import copy
import unittest

from bellferry.errors import NoFerry, NoName, NoStep, NoWidth, NoWord, TooMany, Twice, Unknown
from bellferry.terms import size_of
from bellferry.worlds import made

from helper import deep, num, var

NO_NAMES = (
    "", "abcdefghi", "A", "aB", "Ab", "a b", " a", "a ", " ", "a1", "1", "0a", "a_b", "a-b", "`", "{", "@", "~",
    "a\n", "\n", "abcdefgh ", "abcdefgh\n", "a" * 100,
)


def parts(count):
    """A term of so many parts, at most 8 deep, that reads the variable a."""
    if count % 2 == 0:
        return ("pick", parts(count - 3), num(1), num(2)) if count > 4 else ("pick", var("a"), num(1), num(2))
    if count == 1:
        return var("a")
    left = (count - 1) // 2
    left = left if left % 2 == 1 else left - 1
    return ("plus", parts(left), parts(count - 1 - left))


# More than one of the faults that a term may have.
BIG_AND_UNKNOWN = ("plus", parts(31), var("zz"))
DEEP_AND_UNKNOWN = ("less", deep(8), var("zz"))


class RefusalTest(unittest.TestCase):
    def refused(self, error, width, islands, ferries):
        kept = copy.deepcopy((islands, ferries))
        with self.assertRaises(error, msg=(width, islands, ferries)) as held:
            made(width, islands, ferries)
        self.assertIs(type(held.exception), error)
        self.assertEqual((islands, ferries), kept)


class WorldTest(RefusalTest):
    def test_widths_that_are_none(self):
        for width in (0, 65, -1, -64, 128, 2 ** 64, 10 ** 50, -10 ** 50):
            self.refused(NoWidth, width, [], [])
            self.refused(NoWidth, width, [("a", [("x", 0)], [])], [])

    def test_more_than_five_islands(self):
        islands = [(name, [], []) for name in ("a", "b", "c", "d", "e", "g", "h")]
        made(8, islands[:5], [])
        self.refused(TooMany, 8, islands[:6], [])
        self.refused(TooMany, 8, islands, [])

    def test_more_than_six_ferries(self):
        islands = [("a", [], []), ("b", [], [])]
        ferries = [(name, "a", "b", 0, 1) for name in ("f", "g", "h", "i", "j", "k", "l", "m")]
        made(8, islands, ferries[:6])
        self.refused(TooMany, 8, islands, ferries[:7])
        self.refused(TooMany, 8, islands, ferries)

    def test_more_than_six_vars(self):
        names = ("a", "b", "c", "d", "e", "f", "g", "h")
        for count in range(9):
            islands = [("x", [], []), ("y", [(name, 0) for name in names[:count]], [])]
            if count <= 6:
                made(8, islands, [])
            else:
                self.refused(TooMany, 8, islands, [])

    def test_more_than_twelve_steps(self):
        for count in (11, 12, 13, 14, 40):
            islands = [("x", [], []), ("y", [("a", 0)], [("put", "a", num(1))] * count)]
            if count <= 12:
                made(8, islands, [])
            else:
                self.refused(TooMany, 8, islands, [])

    def test_names_that_are_none(self):
        for name in NO_NAMES:
            self.refused(NoName, 8, [(name, [], [])], [])
            self.refused(NoName, 8, [("a", [], []), (name, [], [])], [])
            self.refused(NoName, 8, [("a", [(name, 0)], [])], [])
            self.refused(NoName, 8, [("a", [("x", 0), (name, 0)], [])], [])
            self.refused(NoName, 8, [("a", [], []), ("b", [], [])], [(name, "a", "b", 0, 1)])
            self.refused(NoName, 8, [("a", [], []), ("b", [], [])], [("f", "a", "b", 0, 1), (name, "a", "b", 0, 1)])

    def test_names_that_are_none_and_stand_twice(self):
        self.refused(NoName, 8, [("A", [], []), ("A", [], [])], [])
        self.refused(NoName, 8, [], [("A", "a", "b", 0, 1), ("A", "a", "b", 0, 1)])
        self.refused(NoName, 8, [("a", [("", 0), ("", 0)], [])], [])

    def test_a_ferrys_name_of_an_earlier_ferry(self):
        islands = [("a", [], []), ("b", [], [])]
        self.refused(Twice, 8, islands, [("f", "a", "b", 0, 1), ("f", "a", "b", 0, 1)])
        self.refused(Twice, 8, islands, [("f", "a", "b", 0, 1), ("g", "a", "b", 0, 1), ("f", "b", "a", 3, 2)])

    def test_an_islands_name_of_a_ferry(self):
        for place in range(3):
            islands = [("a", [], []), ("b", [], []), ("c", [], [])]
            ferries = [("f", "a", "b", 0, 1), ("g", "b", "a", 0, 1)]
            for name in ("f", "g"):
                islands[place] = (name, [], [])
                self.refused(Twice, 8, islands, ferries)

    def test_an_islands_name_of_an_earlier_island(self):
        self.refused(Twice, 8, [("a", [], []), ("a", [], [])], [])
        self.refused(Twice, 8, [("a", [], []), ("b", [], []), ("a", [("x", 1)], [])], [])

    def test_a_vars_name_of_an_earlier_var_of_the_island(self):
        self.refused(Twice, 8, [("a", [("x", 1), ("x", 1)], [])], [])
        self.refused(Twice, 8, [("b", [], []), ("a", [("x", 1), ("y", 2), ("x", 3)], [])], [])

    def test_first_words_that_are_none_of_the_width(self):
        for width in (1, 2, 8, 63, 64):
            for word in (-1, 2 ** width, 2 ** width + 1, -2 ** width, 10 ** 40, -10 ** 40):
                self.refused(NoWord, width, [("a", [("x", word)], [])], [])
                self.refused(NoWord, width, [("b", [], []), ("a", [("y", 0), ("x", word)], [])], [])

    def test_ends_that_no_island_is(self):
        islands = [("a", [("x", 0)], []), ("b", [], [])]
        for name in ("c", "f", "g", "x", "", "A", "aa"):
            self.refused(Unknown, 8, islands, [("f", name, "b", 0, 1), ("g", "a", "b", 0, 1)])
            self.refused(Unknown, 8, islands, [("f", "a", "b", 0, 1), ("g", "a", name, 0, 1)])
            self.refused(Unknown, 8, islands, [("f", name, name, 9, 9)])
        self.refused(Unknown, 8, [], [("f", "a", "b", 0, 1)])

    def test_a_giver_that_is_the_taker(self):
        islands = [("a", [], []), ("b", [], [])]
        self.refused(NoFerry, 8, islands, [("f", "a", "a", 0, 1)])
        self.refused(NoFerry, 8, islands, [("g", "a", "b", 0, 1), ("f", "b", "b", 0, 1)])

    def test_k_and_stages_beyond_their_bounds(self):
        islands = [("a", [], []), ("b", [], [])]
        for k in (-1, 4, -2, 5, 64, 10 ** 30):
            self.refused(NoFerry, 8, islands, [("f", "a", "b", k, 1)])
        for stages in (0, 4, -1, 5, 64, 10 ** 30):
            self.refused(NoFerry, 8, islands, [("g", "a", "b", 0, 1), ("f", "a", "b", 3, stages)])

    def test_a_take_of_which_the_island_is_not_the_taker(self):
        ferries = [("f", "a", "b", 0, 1)]
        take = ("take", "f", "x")
        made(8, [("a", [("x", 0)], []), ("b", [("x", 0)], [take]), ("c", [("x", 0)], [])], ferries)
        self.refused(NoFerry, 8, [("a", [("x", 0)], [take]), ("b", [], []), ("c", [], [])], ferries)
        self.refused(NoFerry, 8, [("a", [], []), ("b", [("x", 0)], [take]), ("c", [("x", 0)], [take])], ferries)

    def test_a_give_of_which_the_island_is_not_the_giver(self):
        ferries = [("f", "a", "b", 0, 1)]
        give = ("give", "f", num(1))
        made(8, [("a", [], [give]), ("b", [], []), ("c", [], [])], ferries)
        self.refused(NoFerry, 8, [("a", [], [give]), ("b", [], [give]), ("c", [], [])], ferries)
        self.refused(NoFerry, 8, [("a", [], []), ("b", [], []), ("c", [], [("jump", num(1), 0), give])], ferries)


class StepTest(RefusalTest):
    def steps(self, steps):
        """The one island that is looked at takes from f, gives to g and has a and b, not zz."""
        islands = [("x", [("zz", 0)], []), ("y", [("a", 0), ("b", 1)], list(steps))]
        return (8, islands, [("f", "x", "y", 0, 1), ("g", "y", "x", 0, 1)])

    def let_by(self, step):
        for steps in ([step], [("put", "a", num(0)), step], [step] * 12):
            made(*self.steps(steps))

    def step_refused(self, error, step):
        for steps in ([step], [("put", "a", num(0)), step], [step] * 12):
            self.refused(error, *self.steps(steps))

    def test_take(self):
        self.let_by(("take", "f", "a"))
        for ferry in ("h", "x", "y", "a", "", "F"):
            self.step_refused(Unknown, ("take", ferry, "a"))
            self.step_refused(Unknown, ("take", ferry, "zz"))
        for name in ("zz", "f", "y", "c", "", "A"):
            self.step_refused(Unknown, ("take", "f", name))
            # All that is unknown comes ahead of a ferry's wrong end.
            self.step_refused(Unknown, ("take", "g", name))
        self.step_refused(NoFerry, ("take", "g", "a"))

    def test_give(self):
        self.let_by(("give", "g", var("a")))
        for ferry in ("h", "x", "y", "a", "", "G"):
            self.step_refused(Unknown, ("give", ferry, num(1)))
            self.step_refused(Unknown, ("give", ferry, parts(31)))
            self.step_refused(Unknown, ("give", ferry, deep(9)))
        for ferry in ("f", "g"):
            self.step_refused(TooMany, ("give", ferry, parts(31)))
            self.step_refused(Unknown, ("give", ferry, var("zz")))
        self.step_refused(NoFerry, ("give", "f", var("a")))

    def test_put(self):
        self.let_by(("put", "a", var("b")))
        for name in ("zz", "f", "y", "c", "", "A"):
            self.step_refused(Unknown, ("put", name, num(1)))
            self.step_refused(Unknown, ("put", name, parts(31)))
            self.step_refused(Unknown, ("put", name, deep(9)))
        self.step_refused(TooMany, ("put", "a", parts(31)))
        self.step_refused(Unknown, ("put", "a", var("zz")))

    def test_jump(self):
        for count in range(1, 13):
            for at in (-10 ** 20, -2, -1, 0, 1, count - 1, count, count + 1, count + 2, 12, 13, 10 ** 20):
                for place in (0, count - 1):
                    steps = [("put", "a", num(0))] * count
                    steps[place] = ("jump", var("a"), at)
                    if 0 <= at <= count:
                        made(*self.steps(steps))
                    else:
                        self.refused(NoStep, *self.steps(steps))

    def test_a_jumps_term_comes_ahead_of_its_number(self):
        for at in (-1, 0, 1, 13, 50):
            self.step_refused(TooMany, ("jump", parts(31), at))
            self.step_refused(TooMany, ("jump", deep(9), at))
            self.step_refused(Unknown, ("jump", var("zz"), at))

    def term_steps(self, term):
        return [("give", "g", term), ("put", "b", term), ("jump", term, 0)]

    def test_the_terms_of_these_tests_have_their_parts_and_are_not_too_deep(self):
        for count in list(range(3, 34)) + [1, 40, 61]:
            self.assertEqual(size_of(parts(count))[0], count)
            self.assertLessEqual(size_of(parts(count))[1], 8)
        self.assertLessEqual(size_of(deep(9))[0], 30)
        self.assertLessEqual(size_of(deep(9, "pick"))[0], 30)

    def test_30_and_31_parts(self):
        for count in range(1, 31):
            if count != 2:
                for step in self.term_steps(parts(count)):
                    self.let_by(step)
        for count in (31, 32, 33, 40, 61):
            for step in self.term_steps(parts(count)):
                self.step_refused(TooMany, step)

    def test_8_and_9_deep(self):
        for form in ("plus", "minus", "times", "less", "same", "pick"):
            for step in self.term_steps(deep(8, form)):
                self.let_by(step)
            for depth in (9, 10, 15, 40):
                for step in self.term_steps(deep(depth, form)):
                    self.step_refused(TooMany, step)

    def test_many_parts_that_are_not_deep(self):
        flat = ("pick",) + (("pick",) + (("pick", num(1), var("a"), num(2)),) * 3,) * 3
        self.assertEqual(size_of(flat), (40, 4))
        for step in self.term_steps(flat):
            self.step_refused(TooMany, step)

    def test_variables_that_the_island_does_not_have(self):
        for name in ("zz", "x", "y", "f", "g", "c", "", "A"):
            for term in (
                var(name), ("plus", var("a"), var(name)), ("plus", var(name), var("a")),
                ("pick", num(1), num(2), var(name)), ("pick", num(0), var(name), num(1)),
                ("pick", var(name), num(0), num(1)), ("less", ("times", num(0), var(name)), var("b")),
            ):
                for step in self.term_steps(term):
                    self.step_refused(Unknown, step)

    def test_a_term_that_is_too_big_and_reads_what_there_is_not(self):
        for term in (BIG_AND_UNKNOWN, DEEP_AND_UNKNOWN):
            for step in self.term_steps(term):
                self.step_refused(TooMany, step)

    def test_a_num_may_be_any_whole_number(self):
        for n in (0, -1, 256, 2 ** 64, -10 ** 250, 10 ** 250):
            for step in self.term_steps(num(n)):
                self.let_by(step)

    def test_the_first_step_with_a_fault_is_told(self):
        steps = [
            (NoStep, ("jump", num(1), -1)), (Unknown, ("take", "f", "zz")), (TooMany, ("put", "a", parts(31))),
            (Unknown, ("give", "h", num(1))), (NoStep, ("jump", num(1), 99)),
        ]
        for first, step in steps:
            for _, later in steps:
                self.refused(first, *self.steps([step, later]))
                # A ferry's wrong end is looked at behind all this.
                self.refused(first, *self.steps([("take", "g", "a"), step, later]))
                self.refused(first, *self.steps([step, later, ("give", "f", num(1))]))


def draft():
    """Three islands in a ring of three ferries; each has a step of each form."""
    islands = []
    for name, takes, gives in (("north", "tide", "gale"), ("south", "gale", "mist"), ("west", "mist", "tide")):
        steps = [["take", takes, "a"], ["give", gives, var("a")], ["put", "b", var("a")], ["jump", var("b"), 0]]
        islands.append([name, [["a", 1], ["b", 2], ["c", 3]], steps])
    ferries = [["gale", "north", "south", 0, 1], ["mist", "south", "west", 1, 2], ["tide", "west", "north", 2, 3]]
    return [8, islands, ferries]


def handed(world):
    islands = [
        (name, [tuple(pair) for pair in pairs], [tuple(step) for step in steps]) for name, pairs, steps in world[1]
    ]
    return (world[0], islands, [tuple(ferry) for ferry in world[2]])


def put_at(path, value):
    """A change of a draft: what the path leads to becomes the value."""
    def change(world):
        for place in path[:-1]:
            world = world[place]
        world[path[-1]] = value
    return change


def added(path, values):
    def change(world):
        for place in path:
            world = world[place]
        world.extend(copy.deepcopy(values))
    return change


def set_fault(rank, path, value, error):
    return (rank, [path], error, put_at(path, value))


def world_faults():
    more_islands = [[name, [], []] for name in ("ma", "mb", "mc")]
    more_ferries = [[name, "north", "west", 0, 1] for name in ("na", "nb", "nc", "nd")]
    return [
        set_fault((0,), (0,), 0, NoWidth),
        set_fault((0,), (0,), 65, NoWidth),
        ((1,), [(1, "count")], TooMany, added((1,), more_islands)),
        ((1,), [(2, "count")], TooMany, added((2,), more_ferries)),
    ]


def ferry_faults(f):
    faults = [
        set_fault((2, f, 0), (2, f, 0), "Gale", NoName),
        set_fault((4, f, 0), (2, f, 1), "nobody", Unknown),
        set_fault((4, f, 1), (2, f, 2), "nobody", Unknown),
        set_fault((4, f, 2), (2, f, 3), -1, NoFerry),
        set_fault((4, f, 2), (2, f, 3), 4, NoFerry),
        set_fault((4, f, 2), (2, f, 4), 0, NoFerry),
        set_fault((4, f, 2), (2, f, 4), 4, NoFerry),
    ]
    taker = draft()[2][f][2]
    faults.append(((4, f, 2), [(2, f, 1), (2, f, 2)], NoFerry, put_at((2, f, 1), taker)))
    if f > 0:
        faults.append(set_fault((2, f, 1), (2, f, 0), "gale", Twice))
    return faults


def var_faults(i, v):
    place = (3, i, 3, v)
    faults = [
        set_fault(place + (0,), (1, i, 1, v, 0), "", NoName),
        set_fault(place + (2,), (1, i, 1, v, 1), 256, NoWord),
        set_fault(place + (2,), (1, i, 1, v, 1), -1, NoWord),
    ]
    if v > 0:
        faults.append(set_fault(place + (1,), (1, i, 1, v, 0), "a", Twice))
    return faults


def term_faults(i, s, at, order):
    place = (3, i, 4, s, order)
    path = (1, i, 2, s, at)
    return [
        set_fault(place + (0,), path, parts(31), TooMany),
        set_fault(place + (0,), path, deep(9), TooMany),
        set_fault(place + (0,), path, BIG_AND_UNKNOWN, TooMany),
        set_fault(place + (0,), path, DEEP_AND_UNKNOWN, TooMany),
        set_fault(place + (1,), path, var("zz"), Unknown),
    ]


def step_faults(i):
    """The wrong ferries are those that the island gives to instead of taking from, and the other way round."""
    place = (3, i, 4)
    steps = draft()[1][i][2]
    faults = [
        set_fault(place + (0, 0), (1, i, 2, 0, 1), "none", Unknown),
        set_fault(place + (0, 1), (1, i, 2, 0, 2), "zz", Unknown),
        set_fault(place + (1, 0), (1, i, 2, 1, 1), "none", Unknown),
        set_fault(place + (2, 0), (1, i, 2, 2, 1), "zz", Unknown),
        set_fault(place + (3, 1), (1, i, 2, 3, 2), -1, NoStep),
        set_fault(place + (3, 1), (1, i, 2, 3, 2), 99, NoStep),
        set_fault((5, i, 0), (1, i, 2, 0, 1), steps[1][1], NoFerry),
        set_fault((5, i, 1), (1, i, 2, 1, 1), steps[0][1], NoFerry),
    ]
    return faults + term_faults(i, 1, 2, 1) + term_faults(i, 2, 2, 1) + term_faults(i, 3, 1, 0)


def island_faults(i):
    more_vars = [[name, 0] for name in ("va", "vb", "vc", "vd")]
    more_steps = [["put", "a", num(0)]] * 9
    faults = [
        set_fault((3, i, 0), (1, i, 0), "abcdefghi", NoName),
        set_fault((3, i, 1), (1, i, 0), "tide", Twice),
        ((3, i, 2), [(1, i, 1, "count")], TooMany, added((1, i, 1), more_vars)),
        ((3, i, 2), [(1, i, 2, "count")], TooMany, added((1, i, 2), more_steps)),
    ]
    if i > 0:
        faults.append(set_fault((3, i, 1), (1, i, 0), "north", Twice))
    for v in range(3):
        faults.extend(var_faults(i, v))
    return faults + step_faults(i)


def all_faults():
    faults = world_faults()
    for place in range(3):
        faults.extend(ferry_faults(place) + island_faults(place))
    return faults


class OrderTest(RefusalTest):
    """Each fault has a rank, as the document tells the order; the least one of two is told."""

    def broken(self, changes):
        world = draft()
        for change in changes:
            change(world)
        return handed(world)

    def test_the_draft_itself_is_let_by(self):
        made(*handed(draft()))

    def test_each_fault_by_itself(self):
        for rank, places, error, change in all_faults():
            with self.subTest(rank=rank, error=error.__name__):
                self.refused(error, *self.broken([change]))

    def test_any_two_faults_at_once(self):
        faults = all_faults()
        pairs = 0
        for one in faults:
            for other in faults:
                if one[0] < other[0] and not set(one[1]) & set(other[1]):
                    self.refused(one[2], *self.broken([one[3], other[3]]))
                    pairs += 1
        self.assertGreater(pairs, 5000)

    def test_all_ferries_names_come_ahead_of_any_islands_fault(self):
        islands = [("A", [("", -1)], [("jump", var("zz"), -1)]), ("b", [], [])]
        self.refused(Twice, 8, islands, [("f", "a", "b", 0, 1), ("g", "x", "x", 9, 9), ("f", "a", "b", 0, 1)])
        self.refused(NoName, 8, [("f", [], [])], [("f", "q", "q", 9, 9), ("F", "q", "q", 9, 9)])

    def test_an_earlier_ferry_comes_ahead_of_a_later_one(self):
        self.refused(Twice, 8, [], [("f", "a", "b", 0, 1), ("f", "a", "b", 0, 1), ("G", "a", "b", 0, 1)])
        islands = [("a", [], []), ("b", [], [])]
        self.refused(NoFerry, 8, islands, [("f", "a", "a", 0, 1), ("g", "q", "b", 0, 1)])
        self.refused(NoFerry, 8, islands, [("f", "a", "b", 4, 1), ("g", "a", "q", 0, 1)])

    def test_an_earlier_island_comes_ahead_of_a_later_one(self):
        self.refused(NoWord, 8, [("a", [("x", 256)], []), ("B", [], [])], [])
        self.refused(NoStep, 8, [("a", [], [("jump", num(1), 2)]), ("a", [], [])], [])
        self.refused(TooMany, 8, [("a", [("x", 0)] * 7, []), ("B", [], [])], [])

    def test_an_earlier_var_comes_ahead_of_a_later_one(self):
        self.refused(NoWord, 8, [("a", [("x", 256), ("Y", 0)], [])], [])
        self.refused(NoWord, 8, [("a", [("x", -1), ("x", 0)], [])], [])
        self.refused(Twice, 8, [("a", [("x", 0), ("x", -1), ("Y", 0)], [])], [])

    def test_too_many_vars_or_steps_come_ahead_of_what_is_in_them(self):
        self.refused(TooMany, 8, [("a", [("", -1)] * 7, [])], [])
        self.refused(TooMany, 8, [("a", [("", -1)], [("put", "zz", num(0))] * 13)], [])

    def test_all_islands_own_faults_come_ahead_of_any_ferrys_ends(self):
        ferries = [("f", "q", "q", 9, 9)]
        self.refused(NoStep, 8, [("a", [], []), ("b", [], [("jump", num(1), 5)])], ferries)
        self.refused(NoWord, 8, [("a", [], []), ("b", [("x", 256)], [])], ferries)

    def test_ferries_ends_come_ahead_of_a_step_at_the_wrong_end(self):
        islands = [("a", [("x", 0)], [("take", "f", "x")]), ("b", [], [])]
        self.refused(NoFerry, 8, islands, [("f", "a", "b", 0, 1)])
        self.refused(Unknown, 8, islands, [("f", "a", "b", 0, 1), ("g", "a", "q", 0, 1)])
        self.refused(Unknown, 8, islands, [("f", "q", "q", 0, 1)])

    def test_a_giver_comes_ahead_of_a_taker_and_both_ahead_of_the_rest(self):
        self.refused(Unknown, 8, [("a", [], [])], [("f", "q", "a", 9, 9)])
        self.refused(Unknown, 8, [("a", [], [])], [("f", "a", "q", 9, 9)])
        self.refused(Unknown, 8, [], [("f", "q", "q", 0, 1)])
