import copy
import unittest

from bellferry.bounds import bounds, stretches, track
from bellferry.plain import first_stand
from bellferry.worlds import made

from helper import busy_world, grown_world, is_whole, num, rings_of, round_by_hand, var


def lone_world(names):
    return made(8, [(name, [], []) for name in names], [])


def looping(stages):
    """Two islands that for ever give and take, and ferries of as many stages as told."""
    ferries = [("fgh"[j], "p", "q", 3, count) for j, count in enumerate(stages)]
    steps = [("give", "f", num(1)), ("jump", num(1), 0)] if stages else [("jump", num(1), 0)]
    other = [("take", "f", "a"), ("jump", num(1), 0)] if stages else []
    return made(8, [("p", [], steps), ("q", [("a", 0)], other)], ferries)


def stretches_by_hand(names, rung):
    """The shortest beginning in which all have rung is cut off, as long as there is one."""
    for end in range(len(rung) + 1):
        if set(rung[:end]) == set(names):
            return 1 + stretches_by_hand(names, rung[end:]) if names else 0
    return 0


def steps_by_hand(world, n):
    stand = first_stand(world)
    done = {island[0]: 0 for island in world[1]}
    for _ in range(n):
        stand, names = round_by_hand(world, stand)
        for name in names:
            done[name] += 1
    return done


class StretchesTest(unittest.TestCase):
    def check(self, world, names, count):
        kept = list(names)
        answer = stretches(world, names)
        self.assertTrue(is_whole(answer))
        self.assertEqual(answer, count, names)
        self.assertEqual(names, kept)

    def test_no_rings(self):
        for names in ([], ["a"], ["a", "b"], ["a", "b", "c", "d", "e"]):
            self.check(lone_world(names), [], 0)

    def test_a_world_without_islands(self):
        self.check(made(8, [], []), [], 0)

    def test_one_island(self):
        for count in range(8):
            self.check(lone_world(["a"]), ["a"] * count, count)

    def test_a_stretch_ends_as_soon_as_every_island_has_rung(self):
        world = lone_world(["a", "b"])
        for text, count in (
            ("a", 0), ("aaaa", 0), ("ab", 1), ("ba", 1), ("aab", 1), ("aaba", 1), ("aabb", 1), ("abab", 2),
            ("abba", 2), ("aabba", 2), ("abbba", 2), ("abbbb", 1), ("abaab", 2), ("abaabb", 2), ("aaabbb", 1),
        ):
            self.check(world, list(text), count)

    def test_what_is_left_at_the_end_is_none(self):
        world = lone_world(["a", "b", "c"])
        for text, count in (("abcab", 1), ("abcabb", 1), ("abcabbc", 2), ("abccccb", 1), ("abcccba", 2)):
            self.check(world, list(text), count)

    def test_all_short_rows(self):
        names = ["a", "b", "c"]
        rows = [[]]
        for _ in range(7):
            rows = [row + [name] for row in rows for name in names]
        for row in rows:
            self.check(lone_world(names), row, stretches_by_hand(names, row))

    def test_many_rows(self):
        for count in range(1, 6):
            names = ["oak", "elm", "ash", "fir", "yew"][:count]
            for start in range(1, 25):
                row = rings_of(names, 120, start)
                self.check(lone_world(names), row, stretches_by_hand(names, row))


class BoundsTest(unittest.TestCase):
    def check(self, world, names, least, most):
        kept = list(names)
        told = bounds(world, names)
        self.assertIs(type(told), tuple)
        self.assertEqual([type(part) for part in told], [dict, dict])
        self.assertTrue(all(is_whole(count) for part in told for count in part.values()))
        self.assertEqual(told, (least, most), names)
        self.assertEqual(names, kept)

    def test_a_world_without_islands(self):
        self.check(made(8, [], []), [], {}, {})

    def test_no_rings(self):
        self.check(looping([1]), [], {"p": 0, "q": 0}, {"p": 0, "q": 0})

    def test_a_world_without_ferries_has_two_stretches_a_round(self):
        world = looping([])
        for count, least in ((1, 0), (2, 1), (3, 1), (4, 2), (5, 2), (6, 3)):
            self.check(world, ["p", "q"] * count, {"p": least, "q": 0}, {"p": 2 * count, "q": 0})

    def test_the_most_stages_of_any_ferry_count(self):
        for stages in ([1], [2], [3], [1, 1], [1, 2], [2, 1], [1, 3, 2], [3, 1, 1], [1, 1, 3]):
            world = looping(stages)
            a_round = max(stages) + 2
            for count in range(3 * a_round + 2):
                least = steps_by_hand(world, count // a_round)
                self.check(world, ["p", "q"] * count, least, steps_by_hand(world, 2 * count))

    def test_the_least_by_hand(self):
        """With one stage there are three stretches a round; p gives in the first round, q takes in the second one."""
        world = looping([1])
        for count, least in (
            (0, (0, 0)), (2, (0, 0)), (3, (1, 0)), (5, (1, 0)), (6, (2, 1)), (8, (2, 1)), (9, (3, 2)),
        ):
            told = bounds(world, ["p", "q"] * count)[0]
            self.assertEqual(told, {"p": least[0], "q": least[1]})

    def test_the_most_is_told_of_all_rings_though_one_bell_never_rings(self):
        world = looping([1])
        self.check(world, ["q"] * 5, {"p": 0, "q": 0}, {"p": 5, "q": 4})
        self.check(world, ["p"] * 6, {"p": 0, "q": 0}, {"p": 6, "q": 5})

    def test_behind_a_standstill_nothing_more_is_done(self):
        world = made(8, [
            ("p", [], [("give", "f", num(1)), ("give", "f", num(2))]), ("q", [("a", 0)], [("take", "f", "a")]),
        ], [("f", "p", "q", 0, 1)])
        self.check(world, ["p", "q"] * 60, {"p": 2, "q": 1}, {"p": 2, "q": 1})

    def test_many_worlds(self):
        for grow in (grown_world, busy_world):
            for start in range(1, 60):
                world = made(*grow(start))
                names = [island[0] for island in world[1]]
                stages = max([ferry[4] for ferry in world[2]] + [0])
                for count in (7, 60):
                    row = rings_of(names, count, start)
                    rounds = stretches_by_hand(names, row) // (stages + 2)
                    self.check(world, row, steps_by_hand(world, rounds), steps_by_hand(world, count))

    def test_what_is_told_is_the_askers_own(self):
        world = looping([1])
        names = ["p", "q"] * 12
        least, most = bounds(world, names)
        self.assertIsNot(least, most)
        kept = copy.deepcopy(most)
        least["p"] = least["r"] = "spoilt"
        self.assertEqual(most, kept)
        self.assertEqual(bounds(world, names)[1], kept)
        self.assertEqual(bounds(world, [])[0], {"p": 0, "q": 0})
        self.assertIsNot(bounds(world, [])[0], bounds(world, [])[1])


class TrackTest(unittest.TestCase):
    def track(self, world, n):
        told = track(world, n)
        self.assertIs(type(told), dict)
        self.assertEqual(sorted(told), sorted(island[0] for island in world[1]))
        for rows in told.values():
            self.assertIs(type(rows), list)
            for pair in rows:
                self.assertIs(type(pair), tuple)
                self.assertEqual(len(pair), 2)
                self.assertTrue(is_whole(pair[0]))
                self.assertIs(type(pair[1]), dict)
        holders = [id(pair[1]) for rows in told.values() for pair in rows]
        self.assertEqual(len(set(holders)), len(holders))
        return told

    def test_a_world_without_islands(self):
        for n in (0, 1, 5):
            self.assertEqual(self.track(made(8, [], []), n), {})

    def test_no_rounds(self):
        world = made(8, [("p", [("a", 3), ("b", 4)], [("put", "a", num(1))]), ("q", [], [])], [])
        self.assertEqual(self.track(world, 0), {"p": [(0, {"a": 3, "b": 4})], "q": [(0, {})]})

    def test_waiting_is_no_step(self):
        world = made(8, [
            ("p", [("a", 0)], [("put", "a", num(5)), ("jump", num(0), 0), ("give", "f", var("a")), ("give", "f", num(6))]),
            ("q", [("a", 9)], [("take", "f", "a"), ("put", "a", ("plus", var("a"), num(1))), ("take", "f", "a")]),
        ], [("f", "p", "q", 0, 3)])
        p = [(0, {"a": 0}), (1, {"a": 5}), (2, {"a": 5}), (3, {"a": 5}), (4, {"a": 5})]
        q = [(0, {"a": 9}), (1, {"a": 5}), (2, {"a": 6}), (3, {"a": 6})]
        for n, of_p, of_q in ((0, 1, 1), (1, 2, 1), (2, 3, 1), (3, 4, 1), (4, 4, 2), (5, 5, 3), (6, 5, 4), (9, 5, 4)):
            self.assertEqual(self.track(world, n), {"p": p[:of_p], "q": q[:of_q]}, n)

    def test_a_jump_back_and_a_jump_to_the_end(self):
        world = made(8, [
            ("up", [("a", 254)], [("put", "a", ("plus", var("a"), num(1))), ("jump", var("a"), 0)]),
            ("out", [("a", 1)], [("jump", var("a"), 2), ("put", "a", num(7))]),
            ("loop", [], [("jump", num(1), 0)]),
        ], [])
        self.assertEqual(self.track(world, 6), {
            "up": [(0, {"a": 254}), (1, {"a": 255}), (0, {"a": 255}), (1, {"a": 0}), (2, {"a": 0})],
            "out": [(0, {"a": 1}), (2, {"a": 1})],
            "loop": [(0, {})] * 7,
        })

    def test_many_worlds(self):
        for grow in (grown_world, busy_world):
            for start in range(1, 50):
                world = made(*grow(start))
                stand = first_stand(world)
                rows = {name: [(0, copy.copy(stand[1][name]))] for name in stand[0]}
                for n in range(30):
                    if n in (0, 1, 2, 13, 29):
                        self.assertEqual(self.track(world, n), rows)
                    stand, names = round_by_hand(world, stand)
                    for name in names:
                        rows[name].append((stand[0][name], copy.copy(stand[1][name])))

    def test_what_is_told_is_the_askers_own(self):
        world = looping([1])
        first = track(world, 5)
        kept = copy.deepcopy(first)
        second = track(world, 5)
        for rows in first.values():
            for pair in rows:
                pair[1]["spoilt"] = 1
            rows.append("spoilt")
        first.clear()
        self.assertEqual(second, kept)
        self.assertEqual(track(world, 5), kept)
