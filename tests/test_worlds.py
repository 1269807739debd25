import copy
import unittest

from bellferry.errors import Unknown
from bellferry.worlds import ferries_at, ferry_of, island_of, made

from helper import grown_world, num, var


def five_and_six():
    """Five islands and six ferries, each thing at its most or near it."""
    islands = [
        ("a", [("a", 0), ("b", 255)], [("take", "f", "a"), ("give", "g", var("b"))]),
        ("b", [], []),
        ("abcdefgh", [(name, 7) for name in ("u", "v", "w", "x", "y", "z")], [("put", "z", num(-9))] * 12),
        ("d", [("g", 1)], [("take", "g", "g"), ("jump", ("plus", num(1), var("g")), 2)]),
        ("e", [("a", 3)], [("give", "f", num(2 ** 70)), ("jump", num(1), 0)]),
    ]
    ferries = [
        ("f", "e", "a", 0, 1), ("g", "a", "d", 3, 3), ("h", "a", "d", 1, 2),
        ("hgfedcba", "d", "a", 2, 1), ("i", "b", "abcdefgh", 0, 3), ("j", "e", "d", 3, 1),
    ]
    return (8, islands, ferries)


def as_tuples(value):
    return tuple(as_tuples(part) for part in value) if isinstance(value, (list, tuple)) else value


class MadeTest(unittest.TestCase):
    def check_tuples(self, value):
        self.assertIn(type(value), (tuple, int, str))
        if isinstance(value, tuple):
            for part in value:
                self.check_tuples(part)

    def check(self, width, islands, ferries):
        kept = copy.deepcopy((islands, ferries))
        world = made(width, islands, ferries)
        self.check_tuples(world)
        self.assertEqual(world, as_tuples([width, islands, ferries]))
        self.assertEqual((islands, ferries), kept)
        self.assertEqual([type(island[1]) for island in islands], [list] * len(islands))
        return world

    def test_no_islands(self):
        self.assertEqual(self.check(8, [], []), (8, (), ()))

    def test_one_island(self):
        self.assertEqual(self.check(8, [("a", [], [])], []), (8, (("a", (), ()),), ()))
        step = ("put", "x", ("plus", var("x"), num(1)))
        world = self.check(8, [("a", [("x", 5)], [step])], [])
        self.assertEqual(world, (8, (("a", (("x", 5),), (step,)),), ()))

    def test_five_islands_and_six_ferries_in_the_order_handed_in(self):
        world = self.check(*five_and_six())
        self.assertEqual([island[0] for island in world[1]], ["a", "b", "abcdefgh", "d", "e"])
        self.assertEqual([ferry[0] for ferry in world[2]], ["f", "g", "h", "hgfedcba", "i", "j"])
        width, islands, ferries = five_and_six()
        world = self.check(width, islands[::-1], ferries[::-1])
        self.assertEqual([island[0] for island in world[1]], ["e", "d", "abcdefgh", "b", "a"])
        self.assertEqual([ferry[0] for ferry in world[2]], ["j", "i", "hgfedcba", "h", "g", "f"])

    def test_widths_and_words_at_their_edges(self):
        for width in (1, 2, 8, 63, 64):
            self.check(width, [("a", [("x", 0), ("y", 2 ** width - 1)], [("put", "x", num(2 ** width))])], [])

    def test_each_k_and_each_count_of_stages(self):
        for k in (0, 1, 2, 3):
            for stages in (1, 2, 3):
                self.check(8, [("a", [], []), ("b", [], [])], [("f", "a", "b", k, stages)])

    def test_several_ferries_between_the_same_islands_either_way(self):
        ferries = [("f", "a", "b", 0, 1), ("g", "a", "b", 0, 1), ("h", "b", "a", 0, 1)]
        self.check(8, [("a", [], []), ("b", [], [])], ferries)

    def test_variables_may_be_called_as_islands_ferries_and_others_variables(self):
        names = [("a", 1), ("b", 2), ("f", 3), ("x", 4)]
        step = ("put", "f", ("plus", var("a"), var("b")))
        self.check(8, [("a", names, [step]), ("b", names, [step])], [("f", "a", "b", 0, 1)])
        self.check(8, [("a", [("a", 1)], []), ("b", [("a", 1)], [])], [])

    def test_names_may_be_called_as_forms(self):
        steps = [("take", "give", "num"), ("give", "put", var("num")), ("jump", var("num"), 0)]
        ferries = [("give", "var", "take", 0, 1), ("put", "take", "var", 0, 1)]
        self.check(8, [("take", [("num", 0)], steps), ("var", [], [])], ferries)

    def test_each_letter(self):
        for letter in "abcdefghijklmnopqrstuvwxyz":
            other = "q" if letter == "r" else "r"
            islands = [(letter * 8, [(letter, 0)], []), (other, [(letter * 8, 0)], [])]
            self.check(8, islands, [(letter * 7, letter * 8, other, 0, 1)])

    def test_many_worlds(self):
        for start in range(1, 150):
            self.check(*grown_world(start))

    def test_a_world_stays_where_the_lists_handed_in_are_changed(self):
        width, islands, ferries = five_and_six()
        world = made(width, islands, ferries)
        kept = as_tuples([width, islands, ferries])
        for island in islands:
            island[1].append(("q", 1))
            island[2].reverse()
            island[2].append(("put", "a", num(1)))
        islands.reverse()
        ferries.clear()
        islands.pop()
        self.assertEqual(world, kept)

    def test_each_world_is_made_for_itself(self):
        width, islands, ferries = five_and_six()
        first = made(width, islands, ferries)
        other = made(4, [("a", [("x", 1)], [])], [])
        self.assertEqual(made(width, islands, ferries), first)
        self.assertEqual(other, (4, (("a", (("x", 1),), ()),), ()))
        self.assertEqual(made(8, [], []), (8, (), ()))


class NamedTest(unittest.TestCase):
    def setUp(self):
        self.world = made(*five_and_six())

    def test_island_of_tells_the_tuple(self):
        for island in five_and_six()[1]:
            told = island_of(self.world, island[0])
            self.assertIs(type(told), tuple)
            self.assertEqual(told, as_tuples(island))

    def test_ferry_of_tells_the_tuple(self):
        for ferry in five_and_six()[2]:
            told = ferry_of(self.world, ferry[0])
            self.assertIs(type(told), tuple)
            self.assertEqual(told, ferry)

    def test_ferries_at_tells_them_in_the_worlds_order(self):
        told = {
            "a": ["f", "g", "h", "hgfedcba"], "b": ["i"], "abcdefgh": ["i"],
            "d": ["g", "h", "hgfedcba", "j"], "e": ["f", "j"],
        }
        width, islands, ferries = five_and_six()
        turned = made(width, islands[::-1], ferries[::-1])
        for name, names in told.items():
            self.assertIs(type(ferries_at(self.world, name)), list)
            self.assertEqual(ferries_at(self.world, name), names)
            self.assertEqual(ferries_at(turned, name), names[::-1])

    def test_an_island_without_ferries_has_none(self):
        self.assertEqual(ferries_at(made(8, [("a", [], [])], []), "a"), [])
        world = made(8, [("a", [], []), ("b", [], []), ("c", [], [])], [("f", "a", "c", 0, 1)])
        self.assertEqual(ferries_at(world, "a"), ["f"])
        self.assertEqual(ferries_at(world, "b"), [])
        self.assertEqual(ferries_at(world, "c"), ["f"])

    def test_the_list_of_ferries_is_the_askers_own(self):
        first = ferries_at(self.world, "a")
        second = ferries_at(self.world, "a")
        first.clear()
        self.assertEqual(second, ["f", "g", "h", "hgfedcba"])
        self.assertEqual(ferries_at(self.world, "a"), second)

    def refused(self, ask, world, name):
        with self.assertRaises(Unknown) as held:
            ask(world, name)
        self.assertIs(type(held.exception), Unknown)

    def test_the_name_of_one_of_the_other_sort_is_unknown(self):
        for name in ("f", "g", "hgfedcba", "j"):
            self.refused(island_of, self.world, name)
            self.refused(ferries_at, self.world, name)
        for name in ("a", "b", "abcdefgh", "e"):
            self.refused(ferry_of, self.world, name)

    def test_a_name_that_nothing_has_is_unknown(self):
        for name in ("q", "x", "", "A", "aa", "abcdefg", "abcdefghi", " a", "a\n", "f "):
            for ask in (island_of, ferry_of, ferries_at):
                self.refused(ask, self.world, name)
                self.refused(ask, made(8, [], []), name)
