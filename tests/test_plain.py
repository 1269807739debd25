import copy
import unittest

from bellferry.plain import chain, first_stand, round_of, run_plain
from bellferry.worlds import made

from helper import grown_world, is_whole, num, round_by_hand, var


def give(ferry, n):
    return ("give", ferry, num(n))


def pair_world(k, gives, takes, turned=False):
    """An island that gives 1, 2, .. and one that takes as often as told."""
    islands = [
        ("src", [], [give("f", n + 1) for n in range(gives)]),
        ("dst", [("a", 99)], [("take", "f", "a")] * takes),
    ]
    return made(8, islands[::-1] if turned else islands, [("f", "src", "dst", k, 1)])


def chain_by_hand(world, stand, name):
    """Whether an island waits is told by whether a round moves it."""
    moved = round_by_hand(world, stand)[1]
    names = [name]
    while names[-1] not in moved and names.count(names[-1]) == 1:
        steps = [island[2] for island in world[1] if island[0] == names[-1]][0]
        if stand[0][names[-1]] == len(steps):
            break
        step = steps[stand[0][names[-1]]]
        ferry = [ferry for ferry in world[2] if ferry[0] == step[1]][0]
        names.append(ferry[1] if ferry[2] == names[-1] else ferry[2])
    return names


def holders(stand):
    """What tells all dicts and lists within a stand from one another: none is to stand in two of them."""
    numbers, words, given, taken = stand
    return [id(one) for one in [numbers, words, given, taken] + list(words.values()) + list(given.values())]


def spoil(stand):
    numbers, words, given, taken = stand
    for own in words.values():
        own["spoilt"] = 1
    for row in given.values():
        row.append(-5)
    for one in stand:
        for name in one:
            one[name] = "spoilt"
        one["spoilt"] = 3


class PlainTest(unittest.TestCase):
    def check_kinds(self, world, stand):
        self.assertIs(type(stand), tuple)
        self.assertEqual([type(part) for part in stand], [dict] * 4)
        numbers, words, given, taken = stand
        self.assertEqual(sorted(numbers), sorted(island[0] for island in world[1]))
        self.assertEqual(sorted(words), sorted(numbers))
        self.assertEqual(sorted(given), sorted(ferry[0] for ferry in world[2]))
        self.assertEqual(sorted(taken), sorted(given))
        for island in world[1]:
            self.assertIs(type(words[island[0]]), dict)
            self.assertEqual(sorted(words[island[0]]), sorted(pair[0] for pair in island[1]))
            self.assertTrue(all(is_whole(word) for word in words[island[0]].values()))
        self.assertTrue(all(is_whole(number) for number in list(numbers.values()) + list(taken.values())))
        for row in given.values():
            self.assertIs(type(row), list)
            self.assertTrue(all(is_whole(word) for word in row))

    def round(self, world, stand):
        kept = copy.deepcopy(stand)
        told = round_of(world, stand)
        self.assertIs(type(told), tuple)
        self.assertIs(type(told[1]), list)
        self.assertEqual(stand, kept)
        self.check_kinds(world, told[0])
        self.assertFalse(set(holders(stand)) & set(holders(told[0])))
        return told

    def check_names(self, world, rows):
        """Round by round the names of those that did a step are the rows, then none did."""
        stand = first_stand(world)
        for row in rows:
            stand, names = self.round(world, stand)
            self.assertEqual(names, row)
        for _ in range(3):
            behind, names = self.round(world, stand)
            self.assertEqual(names, [])
            self.assertEqual(behind, stand)
        return stand


class FirstStandTest(PlainTest):
    def test_a_world_without_islands(self):
        self.assertEqual(first_stand(made(8, [], [])), ({}, {}, {}, {}))

    def test_numbers_are_nought_and_words_the_first_ones(self):
        world = made(
            8, [("p", [("a", 3), ("b", 255)], [("put", "a", num(1))]), ("q", [], []), ("r", [("a", 7)], [])],
            [("f", "p", "q", 0, 1), ("g", "r", "p", 3, 3)],
        )
        stand = first_stand(world)
        self.check_kinds(world, stand)
        self.assertEqual(stand, (
            {"p": 0, "q": 0, "r": 0}, {"p": {"a": 3, "b": 255}, "q": {}, "r": {"a": 7}},
            {"f": [], "g": []}, {"f": 0, "g": 0},
        ))

    def test_it_is_the_askers_own(self):
        world = pair_world(0, 2, 2)
        first = first_stand(world)
        second = first_stand(world)
        kept = copy.deepcopy(second)
        self.assertFalse(set(holders(first)) & set(holders(second)))
        self.assertEqual(len(set(holders(first))), len(holders(first)))
        spoil(first)
        self.assertEqual(second, kept)
        self.assertEqual(first_stand(world), kept)


class RoundTest(PlainTest):
    def test_a_word_given_in_a_round_is_not_taken_in_the_same_one(self):
        for turned in (False, True):
            world = pair_world(3, 1, 1, turned)
            stand, names = self.round(world, first_stand(world))
            self.assertEqual(names, ["src"])
            self.assertEqual(stand, ({"src": 1, "dst": 0}, {"src": {}, "dst": {"a": 99}}, {"f": [1]}, {"f": 0}))
            stand, names = self.round(world, stand)
            self.assertEqual(names, ["dst"])
            self.assertEqual(stand, ({"src": 1, "dst": 1}, {"src": {}, "dst": {"a": 1}}, {"f": [1]}, {"f": 1}))

    def test_a_place_freed_in_a_round_is_not_filled_in_the_same_one(self):
        for turned in (False, True):
            world = pair_world(0, 3, 3, turned)
            stand = self.check_names(world, [["src"], ["dst"]] * 3)
            self.assertEqual(stand, ({"src": 3, "dst": 3}, {"src": {}, "dst": {"a": 3}}, {"f": [1, 2, 3]}, {"f": 3}))

    def test_with_two_places_both_go_on_at_once(self):
        self.check_names(pair_world(1, 3, 3), [["src"], ["src", "dst"], ["src", "dst"], ["dst"]])
        self.check_names(pair_world(1, 3, 3, True), [["src"], ["dst", "src"], ["dst", "src"], ["dst"]])

    def test_a_give_at_a_full_ferry_waits(self):
        for k in (0, 1, 2, 3):
            stand = self.check_names(pair_world(k, 12, 0), [["src"]] * 2 ** k)
            self.assertEqual(stand[0]["src"], 2 ** k)
            self.assertEqual(stand[2], {"f": list(range(1, 2 ** k + 1))})
            self.assertEqual(stand[3], {"f": 0})

    def test_a_full_ferry_is_full_until_the_round_behind_a_take(self):
        world = made(8, [
            ("src", [], [give("f", n) for n in range(6)]),
            ("dst", [("a", 9)], [("put", "a", num(8))] * 4 + [("take", "f", "a")]),
        ], [("f", "src", "dst", 1, 1)])
        both = ["src", "dst"]
        stand = self.check_names(world, [both, both, ["dst"], ["dst"], ["dst"], ["src"]])
        self.assertEqual(stand, ({"src": 3, "dst": 5}, {"src": {}, "dst": {"a": 0}}, {"f": [0, 1, 2]}, {"f": 1}))

    def test_a_take_at_an_empty_ferry_waits(self):
        stand = self.check_names(pair_world(2, 0, 3), [])
        self.assertEqual(stand[0], {"src": 0, "dst": 0})
        stand = self.check_names(pair_world(2, 1, 3), [["src"], ["dst"]])
        self.assertEqual(stand, ({"src": 1, "dst": 1}, {"src": {}, "dst": {"a": 1}}, {"f": [1]}, {"f": 1}))

    def test_words_are_taken_in_the_order_given(self):
        world = made(8, [
            ("src", [("n", 250)], [
                ("give", "f", var("n")), ("put", "n", ("plus", var("n"), num(3))), ("jump", num(1), 0),
            ]),
            ("dst", [("a", 0), ("b", 0), ("c", 0)], [("take", "f", "a"), ("take", "f", "c"), ("take", "f", "b")]),
        ], [("f", "src", "dst", 3, 1)])
        stand = run_plain(world, 20)[20]
        self.assertEqual(stand[1]["dst"], {"a": 250, "b": 0, "c": 253})
        self.assertEqual(stand[2]["f"], [250, 253, 0, 3, 6, 9, 12])
        self.assertEqual(stand[3]["f"], 3)

    def test_put_and_jump_are_done_at_once_and_alone(self):
        world = made(8, [
            ("up", [("a", 254)], [("put", "a", ("plus", var("a"), num(1))), ("jump", var("a"), 0)]),
            ("idle", [], []),
            ("loop", [], [("jump", num(1), 0)]),
            ("over", [("a", 1)], [("jump", var("a"), 2), ("put", "a", num(7))]),
        ], [])
        rows = [["up", "loop", "over"], ["up", "loop"], ["up", "loop"], ["up", "loop"], ["loop"], ["loop"]]
        stand = first_stand(world)
        told = [({"a": 255}, 1), ({"a": 255}, 0), ({"a": 0}, 1), ({"a": 0}, 2), ({"a": 0}, 2), ({"a": 0}, 2)]
        for row, (words, number) in zip(rows, told):
            stand, names = self.round(world, stand)
            self.assertEqual(names, row)
            self.assertEqual(stand[0], {"up": number, "idle": 0, "loop": 0, "over": 2})
            self.assertEqual(stand[1], {"up": words, "idle": {}, "loop": {}, "over": {"a": 1}})

    def test_names_come_in_the_worlds_order(self):
        names = ["q", "b", "z", "a", "m"]
        for turn in range(5):
            turned = names[turn:] + names[:turn]
            world = made(8, [(name, [], [("jump", num(0), 0)]) for name in turned], [])
            self.check_names(world, [turned])

    def test_an_island_that_takes_and_one_that_gives_over_several_ferries(self):
        world = made(8, [
            ("p", [("x", 0)], [give("f", 5), ("take", "g", "x"), give("h", 6)]),
            ("q", [("x", 0), ("y", 0)], [
                ("take", "f", "x"), ("give", "g", ("plus", var("x"), num(1))), ("take", "h", "y"),
            ]),
        ], [("f", "p", "q", 0, 1), ("g", "q", "p", 0, 2), ("h", "p", "q", 0, 3)])
        stand = self.check_names(world, [["p"], ["q"], ["q"], ["p"], ["p"], ["q"]])
        self.assertEqual(stand[1], {"p": {"x": 6}, "q": {"x": 5, "y": 6}})
        self.assertEqual(stand[2], {"f": [5], "g": [6], "h": [6]})
        self.assertEqual(stand[3], {"f": 1, "g": 1, "h": 1})

    def test_two_that_give_to_each_other_cross_at_once(self):
        world = made(8, [
            ("p", [("x", 0)], [give("f", 1), ("take", "g", "x")]),
            ("q", [("x", 0)], [give("g", 2), ("take", "f", "x")]),
        ], [("f", "p", "q", 0, 1), ("g", "q", "p", 0, 1)])
        stand = self.check_names(world, [["p", "q"], ["p", "q"]])
        self.assertEqual(stand[1], {"p": {"x": 2}, "q": {"x": 1}})

    def test_names_that_are_called_as_forms(self):
        world = made(8, [
            ("give", [], [give("own", 1), give("own", 2), give("jump", 3)]),
            ("take", [("own", 0)], [("take", "jump", "own"), ("take", "own", "own")]),
        ], [("own", "give", "take", 0, 1), ("jump", "give", "take", 0, 1)])
        stand = self.check_names(world, [["give"]])
        self.assertEqual(stand[2], {"own": [1], "jump": []})
        self.assertEqual(chain(world, stand, "give"), ["give", "take", "give"])
        self.assertEqual(chain(world, stand, "take"), ["take", "give", "take"])

    def test_stages_do_not_count_here(self):
        for stages in (1, 2, 3):
            world = made(8, [
                ("src", [], [give("f", 4)]), ("dst", [("a", 0)], [("take", "f", "a")]),
            ], [("f", "src", "dst", 0, stages)])
            self.check_names(world, [["src"], ["dst"]])

    def test_many_worlds(self):
        for start in range(1, 150):
            world = made(*grown_world(start))
            stand = first_stand(world)
            for _ in range(40):
                by_hand = round_by_hand(world, stand)
                told = self.round(world, stand)
                self.assertEqual(told, by_hand, start)
                stand = told[0]
            for name, _, _, k, _ in world[2]:
                self.assertTrue(0 <= len(stand[2][name]) - stand[3][name] <= 2 ** k)

    def test_nothing_done_to_a_stand_is_seen_in_another_one(self):
        world = pair_world(1, 6, 6)
        stand = run_plain(world, 4)[4]
        told = round_of(world, stand)[0]
        again, names = round_of(world, stand)
        kept = copy.deepcopy(told)
        self.assertFalse(set(holders(told)) & set(holders(again)))
        spoil(stand)
        self.assertEqual(told, kept)
        spoil(again)
        names.clear()
        self.assertEqual(told, kept)
        self.assertEqual(round_of(world, run_plain(world, 4)[4]), (kept, ["src", "dst"]))

    def test_an_island_that_waits_or_is_done_has_its_own_dict_of_words_too(self):
        world = made(8, [("p", [("a", 1)], [("take", "f", "a")]), ("q", [("a", 2)], [])], [("f", "q", "p", 0, 1)])
        stand = first_stand(world)
        behind, names = self.round(world, stand)
        self.assertEqual(names, [])
        spoil(behind)
        self.assertEqual(stand, first_stand(world))


class RunPlainTest(PlainTest):
    def test_no_rounds(self):
        world = pair_world(0, 1, 1)
        self.assertEqual(run_plain(world, 0), [first_stand(world)])
        self.assertEqual(run_plain(made(8, [], []), 0), [({}, {}, {}, {})])

    def test_a_world_without_islands(self):
        self.assertEqual(run_plain(made(8, [], []), 3), [({}, {}, {}, {})] * 4)

    def test_each_stand_is_the_one_behind_a_round_of_the_one_ahead(self):
        for start in range(1, 40):
            world = made(*grown_world(start))
            for n in (0, 1, 2, 30):
                stands = run_plain(world, n)
                self.assertIs(type(stands), list)
                self.assertEqual(len(stands), n + 1)
                self.assertEqual(stands[0], first_stand(world))
                for k in range(n):
                    self.assertEqual(stands[k + 1], round_by_hand(world, stands[k])[0])
                    self.check_kinds(world, stands[k + 1])

    def test_many_rounds_behind_a_standstill(self):
        world = pair_world(0, 2, 2)
        stands = run_plain(world, 300)
        self.assertEqual(len(stands), 301)
        last = ({"src": 2, "dst": 2}, {"src": {}, "dst": {"a": 2}}, {"f": [1, 2]}, {"f": 2})
        self.assertTrue(all(stand == last for stand in stands[4:]))
        self.assertNotEqual(stands[3], last)

    def test_the_stands_share_nothing(self):
        for start in range(1, 30):
            world = made(*grown_world(start))
            stands = run_plain(world, 12)
            kept = copy.deepcopy(stands)
            held = [one for stand in stands for one in holders(stand)]
            self.assertEqual(len(held), len(set(held)))
            for k in (5, 12, 0):
                spoil(stands[k])
                for other in range(13):
                    if other not in (5, 12, 0):
                        self.assertEqual(stands[other], kept[other])
            self.assertEqual(run_plain(world, 12), kept)

    def test_a_run_of_one_world_is_not_seen_in_another_one(self):
        one = pair_world(0, 2, 2)
        other = made(8, [("src", [("a", 1)], []), ("dst", [], [])], [("f", "dst", "src", 3, 1)])
        first = run_plain(one, 5)
        still = ({"src": 0, "dst": 0}, {"src": {"a": 1}, "dst": {}}, {"f": []}, {"f": 0})
        self.assertEqual(run_plain(other, 1)[1], still)
        self.assertEqual(run_plain(one, 5), first)


class ChainTest(PlainTest):
    def check(self, world, stand, name, names):
        kept = copy.deepcopy(stand)
        told = chain(world, stand, name)
        self.assertIs(type(told), list)
        self.assertEqual(told, names)
        self.assertEqual(stand, kept)
        told.append("spoilt")
        self.assertEqual(chain(world, stand, name), names)

    def test_an_island_that_is_done(self):
        world = made(8, [("p", [], []), ("q", [], [("jump", num(0), 0)])], [])
        self.check(world, first_stand(world), "p", ["p"])
        self.check(world, run_plain(world, 1)[1], "q", ["q"])

    def test_an_island_that_can_go_on(self):
        world = pair_world(0, 2, 2)
        stands = run_plain(world, 4)
        self.check(world, stands[0], "src", ["src"])
        self.check(world, stands[1], "dst", ["dst"])
        for step in (("put", "a", num(1)), ("jump", num(1), 0), ("jump", num(0), 0)):
            world = made(8, [("p", [("a", 0)], [step])], [])
            self.check(world, first_stand(world), "p", ["p"])

    def test_a_taker_that_waits_for_a_giver_that_can_go_on(self):
        world = pair_world(0, 2, 2)
        stands = run_plain(world, 4)
        self.check(world, stands[0], "dst", ["dst", "src"])
        self.check(world, stands[2], "dst", ["dst", "src"])

    def test_a_giver_that_waits_for_a_taker_that_can_go_on(self):
        world = pair_world(0, 2, 2)
        self.check(world, run_plain(world, 1)[1], "src", ["src", "dst"])

    def test_one_that_waits_for_one_that_is_done(self):
        world = pair_world(1, 4, 1)
        stand = run_plain(world, 20)[20]
        self.check(world, stand, "src", ["src", "dst"])
        self.check(world, stand, "dst", ["dst"])
        world = pair_world(1, 1, 2)
        stand = run_plain(world, 20)[20]
        self.check(world, stand, "dst", ["dst", "src"])
        self.check(world, stand, "src", ["src"])

    def test_two_that_wait_for_each_other(self):
        world = made(8, [
            ("p", [("a", 0)], [("take", "g", "a"), give("f", 1)]),
            ("q", [("a", 0)], [("take", "f", "a"), give("g", 1)]),
        ], [("f", "p", "q", 0, 1), ("g", "q", "p", 0, 1)])
        self.check(world, first_stand(world), "p", ["p", "q", "p"])
        self.check(world, first_stand(world), "q", ["q", "p", "q"])

    def test_one_gives_to_a_full_ferry_and_the_other_takes_from_an_empty_one(self):
        world = made(8, [
            ("p", [], [give("f", 1), give("f", 2), give("g", 3)]),
            ("q", [("a", 0)], [("take", "g", "a"), ("take", "f", "a")]),
        ], [("f", "p", "q", 0, 1), ("g", "p", "q", 0, 1)])
        stand = run_plain(world, 5)[5]
        self.check(world, stand, "p", ["p", "q", "p"])
        self.check(world, stand, "q", ["q", "p", "q"])

    def ring(self, count, step):
        """Islands in a ring, each taking from the next one, and one more that takes from the first."""
        names = ["a", "b", "c", "d"][:count]
        islands = [(name, [("x", 0)], [("take", "f" + name, "x")]) for name in names]
        islands.append(("out", [("x", 0)], [("take", "fout", "x")]))
        ferries = [("f" + name, names[(k + 1) % count], name, 0, 1) for k, name in enumerate(names)]
        ferries.append(("fout", "a", "out", 0, 1))
        if step is not None:
            islands[count - 1] = (names[-1], [("x", 0)], step)
        return made(8, islands, ferries)

    def test_a_ring_of_islands_that_wait(self):
        world = self.ring(4, None)
        stand = first_stand(world)
        self.check(world, stand, "a", ["a", "b", "c", "d", "a"])
        self.check(world, stand, "c", ["c", "d", "a", "b", "c"])

    def test_a_chain_that_leads_into_a_ring_ends_at_the_first_name_told_again(self):
        for count in (2, 3, 4):
            world = self.ring(count, None)
            self.check(world, first_stand(world), "out", ["out", "a", "b", "c", "d"][:count + 1] + ["a"])

    def test_a_long_chain_to_one_that_does_not_wait(self):
        for step in ([], [("put", "x", num(1))], [give("fc", 1)]):
            world = self.ring(4, step)
            self.check(world, first_stand(world), "out", ["out", "a", "b", "c", "d"])
            self.check(world, first_stand(world), "b", ["b", "c", "d"])
            self.check(world, first_stand(world), "d", ["d"])

    def test_many_worlds(self):
        lengths = []
        for start in range(1, 150):
            world = made(*grown_world(start))
            stands = run_plain(world, 30)
            for stand in (stands[0], stands[1], stands[4], stands[30]):
                for island in world[1]:
                    names = chain_by_hand(world, stand, island[0])
                    self.check(world, stand, island[0], names)
                    lengths.append(len(names))
        self.assertEqual(sorted(set(lengths))[:4], [1, 2, 3, 4])
