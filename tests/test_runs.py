import copy
import unittest

from bellferry.errors import Unknown
from bellferry.runs import Run
from bellferry.worlds import made

from helper import RunByHand, busy_world, grown_world, is_whole, mixed, num, rings_of, var

ALL = 2 ** 64 - 1


def pair_world(k=0, stages=1, gives=2, takes=2):
    return made(8, [
        ("src", [], [("give", "f", num(n + 41)) for n in range(gives)]),
        ("dst", [("a", 9)], [("take", "f", "a")] * takes),
    ], [("f", "src", "dst", k, stages)])


def round_trip():
    """Three islands in a row and back: q takes from p and gives to r, r gives to p."""
    return made(16, [
        ("p", [("a", 5), ("b", 0)], [
            ("give", "pq", var("a")), ("take", "rp", "b"), ("put", "a", ("plus", var("a"), var("b"))),
            ("jump", ("less", var("a"), num(100)), 0),
        ]),
        ("q", [("a", 0)], [("take", "pq", "a"), ("give", "qr", ("times", var("a"), num(2))), ("jump", num(1), 0)]),
        ("r", [("a", 0)], [("take", "qr", "a"), ("give", "rp", ("plus", var("a"), num(1))), ("jump", num(1), 0)]),
    ], [("qr", "q", "r", 0, 1), ("pq", "p", "q", 1, 1), ("rp", "r", "p", 0, 2)])


class RunTest(unittest.TestCase):
    def check_event(self, event):
        self.assertIs(type(event), tuple)
        self.assertEqual(len(event), 4)
        island, number, what, samples = event
        self.assertIs(type(island), str)
        self.assertTrue(is_whole(number))
        self.assertIs(type(what), tuple)
        self.assertEqual(len(what), {"done": 1, "own": 1, "wait": 2, "take": 3, "give": 3}[what[0]])
        self.assertIs(type(samples), list)
        for pair in samples:
            self.assertIs(type(pair), tuple)
            self.assertEqual([type(part) for part in pair], [str, int])

    def check_rings(self, run, rows):
        """Each row is what is rung, with which choice, and the event without the island's name."""
        for name, choice, number, what, samples in rows:
            event = run.ring(name, choice)
            self.check_event(event)
            self.assertEqual(event, (name, number, what, samples))

    def state(self, run, world):
        for island in world[1]:
            self.assertTrue(is_whole(run.number(island[0])))
            self.assertTrue(is_whole(run.steps_done(island[0])))
            self.assertIs(type(run.words(island[0])), dict)
        for ferry in world[2]:
            self.assertIs(type(run.given(ferry[0])), list)
            self.assertIs(type(run.taken(ferry[0])), list)
        return (
            {island[0]: (run.number(island[0]), run.words(island[0]), run.steps_done(island[0])) for island in world[1]},
            {ferry[0]: (run.given(ferry[0]), run.taken(ferry[0])) for ferry in world[2]},
        )


class RingTest(RunTest):
    def test_at_first(self):
        world = made(8, [("p", [("a", 3), ("b", 4)], [("put", "a", num(1))]), ("q", [], [])], [("f", "p", "q", 1, 2)])
        self.assertEqual(self.state(Run(world), world), (
            {"p": (0, {"a": 3, "b": 4}, 0), "q": (0, {}, 0)}, {"f": ([], [])},
        ))

    def test_an_island_that_is_done(self):
        world = made(8, [("p", [("a", 3)], [])], [])
        run = Run(world)
        self.check_rings(run, [("p", 0, 0, ("done",), [])] * 3)
        self.assertEqual(self.state(run, world), ({"p": (0, {"a": 3}, 0)}, {}))

    def test_own_steps(self):
        world = made(8, [("p", [("a", 254)], [
            ("put", "a", ("plus", var("a"), num(1))), ("jump", var("a"), 0), ("jump", num(0), 0),
        ])], [])
        run = Run(world)
        rows = [(0, 255), (1, 255), (0, 0), (1, 0), (2, 0)]
        for done, (number, word) in enumerate(rows):
            self.check_rings(run, [("p", 7, number, ("own",), [])])
            self.assertEqual((run.words("p"), run.steps_done("p")), ({"a": word}, done + 1))
        self.assertEqual(run.number("p"), 3)
        self.check_rings(run, [("p", 0, 3, ("done",), [])] * 2)
        self.assertEqual(run.steps_done("p"), 5)

    def test_a_pair_ring_by_ring(self):
        world = pair_world()
        run = Run(world)
        self.check_rings(run, [
            ("dst", 0, 0, ("wait", "f"), [("f", 0)]),
            ("src", 0, 0, ("give", "f", 41), [("f", 0)]),
            ("dst", 0, 0, ("wait", "f"), [("f", 0)]),
            ("dst", 0, 0, ("wait", "f"), [("f", 1)]),
        ])
        self.assertEqual(self.state(run, world), (
            {"src": (1, {}, 1), "dst": (0, {"a": 9}, 0)}, {"f": ([41], [])},
        ))
        self.check_rings(run, [
            ("src", 1, 1, ("wait", "f"), [("f", 0)]),
            ("dst", 0, 0, ("take", "f", 41), [("f", 1)]),
        ])
        self.assertEqual(self.state(run, world), (
            {"src": (1, {}, 1), "dst": (1, {"a": 41}, 1)}, {"f": ([41], [41])},
        ))
        self.check_rings(run, [
            ("src", 1, 1, ("wait", "f"), [("f", 1)]),
            ("src", 0, 1, ("give", "f", 42), [("f", 1)]),
            ("src", 0, 2, ("done",), [("f", 1)]),
            ("dst", 0, 1, ("wait", "f"), [("f", 0)]),
            ("dst", 0, 1, ("take", "f", 42), [("f", 0)]),
            ("dst", 0, 2, ("done",), [("f", 0)]),
        ])
        self.assertEqual(self.state(run, world), (
            {"src": (2, {}, 2), "dst": (2, {"a": 42}, 2)}, {"f": ([41, 42], [41, 42])},
        ))

    def test_a_done_island_goes_on_showing_and_seeing(self):
        world = pair_world(1, 1, 2, 2)
        run = Run(world)
        self.check_rings(run, [
            ("src", 0, 0, ("give", "f", 41), [("f", 0)]),
            ("src", 0, 1, ("give", "f", 42), [("f", 0)]),
            ("src", 0, 2, ("done",), [("f", 0)]),
            ("dst", 0, 0, ("wait", "f"), [("f", 3)]),
            ("dst", 0, 0, ("take", "f", 41), [("f", 3)]),
            ("src", 0, 2, ("done",), [("f", 0)]),
            ("src", 0, 2, ("done",), [("f", 1)]),
        ])

    def test_the_word_nought_is_given_and_taken(self):
        world = made(8, [
            ("src", [], [("give", "f", num(256))]), ("dst", [("a", 9)], [("take", "f", "a")]),
        ], [("f", "src", "dst", 0, 1)])
        run = Run(world)
        self.check_rings(run, [
            ("src", 0, 0, ("give", "f", 0), [("f", 0)]),
            ("dst", 1, 0, ("wait", "f"), [("f", 1)]),
            ("dst", 1, 0, ("take", "f", 0), [("f", 1)]),
        ])
        self.assertEqual(self.state(run, world), (
            {"src": (1, {}, 1), "dst": (1, {"a": 0}, 1)}, {"f": ([0], [0])},
        ))

    def test_a_waiting_giver_hands_the_same_word_again(self):
        run = Run(pair_world(0, 1, 2, 0))
        self.check_rings(run, [("src", 0, 0, ("give", "f", 41), [("f", 0)])])
        self.check_rings(run, [("src", 0, 1, ("wait", "f"), [("f", 0)])] * 4)
        self.assertEqual((run.given("f"), run.steps_done("src")), ([41], 1))

    def test_only_the_ferry_of_the_wish_is_handed_a_word_or_wished_for(self):
        world = made(8, [
            ("p", [("a", 0)], [("give", "g", num(7)), ("take", "i", "a"), ("take", "h", "a")]),
            ("q", [("a", 0)], [("give", "h", num(1)), ("give", "i", num(2))]),
        ], [("f", "p", "q", 1, 1), ("g", "p", "q", 1, 1), ("h", "q", "p", 1, 1), ("i", "q", "p", 1, 1)])
        run = Run(world)
        for name in ("q", "q", "p", "p", "p", "p", "p", "p"):
            self.check_event(run.ring(name, 2 ** 40 - 1))
        self.assertEqual([run.given(name) for name in "fghi"], [[], [7], [1], [2]])
        self.assertEqual([run.taken(name) for name in "fghi"], [[], [], [1], [2]])
        self.assertEqual(run.words("p"), {"a": 1})

    def test_samples_stand_in_the_worlds_order_and_only_of_the_islands_own_ferries(self):
        run = Run(round_trip())
        self.check_rings(run, [
            ("p", 0, 0, ("give", "pq", 5), [("pq", 0), ("rp", 0)]),
            ("q", 0, 0, ("wait", "pq"), [("qr", 0), ("pq", 0)]),
            ("r", 0, 0, ("wait", "qr"), [("qr", 0), ("rp", 0)]),
            ("q", 0, 0, ("wait", "pq"), [("qr", 0), ("pq", 1)]),
            ("q", 0, 0, ("take", "pq", 5), [("qr", 0), ("pq", 1)]),
            ("q", 0, 1, ("give", "qr", 10), [("qr", 0), ("pq", 1)]),
            ("r", 1, 0, ("wait", "qr"), [("qr", 1), ("rp", 0)]),
            ("p", 256, 1, ("wait", "rp"), [("pq", 1), ("rp", 0)]),
        ])

    def star(self):
        """An island that takes from each of six ferries, all given to by one other one."""
        names = ["fa", "fb", "fc", "fd", "fe", "ff"]
        return made(8, [
            ("mid", [("a", 0)], []),
            ("oth", [], [("give", name, num(n + 1)) for n, name in enumerate(names)]),
        ], [(name, "oth", "mid", 0, 1) for name in names])

    def test_each_ferry_has_the_choice_divided_by_256_to_its_number(self):
        """Only the last give may be seen amid a change, so each ferry is rung for right behind its own give."""
        names = ["fa", "fb", "fc", "fd", "fe", "ff"]
        for number in range(6):
            for choice in [0, 255] + [256 ** j for j in range(8)] + [2 * 256 ** j for j in range(8)] + mixed(12, 56, 5):
                run = Run(self.star())
                for _ in range(number + 1):
                    run.ring("oth", 0)
                seen = choice // 256 ** number % 2
                self.check_rings(run, [("mid", choice, 0, ("done",), [
                    (name, 1 if j < number else seen if j == number else 0) for j, name in enumerate(names)
                ])])

    def test_a_ferry_between_others_counts_among_all_ferries(self):
        """The ferry number 2 is the only one of its two islands."""
        islands = [(name, [], []) for name in ("p", "q", "r")] + [("s", [], [("give", "h", num(5))])]
        world = made(8, islands, [("f", "p", "q", 0, 1), ("g", "q", "p", 0, 1), ("h", "s", "r", 0, 1)])
        for choice, seen in ((0, 0), (1, 0), (256, 0), (65535, 0), (65536, 1), (2 ** 17, 0), (2 ** 300, 0), (2 ** 300 - 1, 1)):
            run = Run(world)
            self.check_rings(run, [
                ("s", 0, 0, ("give", "h", 5), [("h", 0)]), ("r", choice, 0, ("done",), [("h", seen)]),
            ])

    def test_rings_of_other_islands_count_as_moments(self):
        """What was given behind the taker's ring ahead may be seen late, whoever rang in between."""
        world = made(8, [
            ("src", [], [("give", "f", num(3))]), ("dst", [("a", 0)], [("take", "f", "a")]), ("far", [], []),
        ], [("f", "src", "dst", 0, 1)])
        run = Run(world)
        for name in ("far", "dst", "far", "src", "far"):
            run.ring(name, 0)
        self.check_rings(run, [
            ("dst", 0, 0, ("wait", "f"), [("f", 0)]),
            ("far", 0, 0, ("done",), []),
            ("dst", 0, 0, ("wait", "f"), [("f", 1)]),
            ("dst", 0, 0, ("take", "f", 3), [("f", 1)]),
        ])

    def test_names_that_are_called_as_forms(self):
        world = made(8, [
            ("give", [], [("give", "own", num(1)), ("give", "wait", num(2))]),
            ("take", [("own", 0)], [("take", "wait", "own"), ("take", "own", "own")]),
        ], [("own", "give", "take", 0, 1), ("wait", "give", "take", 0, 1)])
        run = Run(world)
        for name in ("give", "give", "take", "take", "take"):
            self.check_event(run.ring(name, 2 ** 16 - 1))
        self.assertEqual((run.taken("wait"), run.taken("own")), ([2], [1]))
        self.assertEqual(run.words("take"), {"own": 1})


class ByHandTest(RunTest):
    def check_run(self, world, rings, choices):
        run = Run(world)
        other = RunByHand(world)
        kinds = []
        for name, choice in zip(rings, choices):
            event = run.ring(name, choice)
            self.check_event(event)
            self.assertEqual(event, other.ring(name, choice))
            self.assertEqual(run.number(name), other.isles[name]["at"])
            kinds.append(event[2][0])
        self.assertEqual(self.state(run, world), (
            {name: (isle["at"], isle["words"], isle["did"]) for name, isle in other.isles.items()},
            {name: (ferry.given, ferry.taken) for name, ferry in other.ferries.items()},
        ))
        return kinds

    def check_worlds(self, grow, starts):
        kinds = []
        for start in starts:
            world = made(*grow(start))
            names = [island[0] for island in world[1]]
            choices = [(0, 2 ** 200 - 1, lot, lot * 2 ** 60)[lot % 4] for lot in mixed(150, 80, start)]
            kinds.extend(self.check_run(world, rings_of(names, 150, start), choices))
        for kind in ("done", "wait", "take", "give", "own"):
            self.assertGreater(kinds.count(kind), 100 if kind != "done" else -1)

    def test_many_worlds(self):
        self.check_worlds(grown_world, range(1, 160))

    def test_worlds_that_go_on(self):
        self.check_worlds(busy_world, range(1, 100))


class UnknownTest(RunTest):
    def test_a_text_that_no_island_has_as_its_name(self):
        world = pair_world()
        run = Run(world)
        run.ring("src", 0)
        kept = self.state(run, world)
        for name in ("f", "", "a", "srcs", "sr", "SRC", "src ", " src", "src\n", "\n", "no such island", "~"):
            for ask in (lambda: run.ring(name, 0), lambda: run.number(name), lambda: run.words(name),
                        lambda: run.steps_done(name)):
                with self.assertRaises(Unknown) as held:
                    ask()
                self.assertIs(type(held.exception), Unknown)
        self.assertEqual(self.state(run, world), kept)
        # A refused ring is none: the next one has the moment that it would have had.
        self.check_rings(run, [("dst", 0, 0, ("wait", "f"), [("f", 0)])])

    def test_a_text_that_no_ferry_has_as_its_name(self):
        run = Run(pair_world())
        for name in ("src", "dst", "", "a", "ff", "F", "f ", " f", "f\n", "\n", "no such ferry", "~"):
            for ask in (run.given, run.taken):
                with self.assertRaises(Unknown) as held:
                    ask(name)
                self.assertIs(type(held.exception), Unknown)

    def test_a_world_without_islands(self):
        run = Run(made(8, [], []))
        for ask in (run.number, run.words, run.steps_done, run.given, run.taken):
            with self.assertRaises(Unknown):
                ask("a")
        with self.assertRaises(Unknown):
            run.ring("a", 0)


class OwnTest(RunTest):
    def test_what_is_told_is_the_askers_own(self):
        world = pair_world(1, 1, 3, 3)
        run = Run(world)
        events = []
        for name in ("src", "dst", "dst", "dst", "src", "src", "dst"):
            events.append(run.ring(name, ALL))
            kept = copy.deepcopy(events)
            run.words("dst")["a"] = "spoilt"
            run.words("dst")["b"] = 1
            run.given("f").append(-1)
            run.taken("f").append(-1)
            run.taken("f").clear()
        state = self.state(run, world)
        self.assertEqual(state[0]["dst"][1].keys(), {"a"})
        self.assertNotIn(-1, state[1]["f"][0] + state[1]["f"][1])
        self.assertEqual(events, kept)
        for event in events:
            event[3].append("spoilt")
        self.assertEqual(self.state(run, world), state)
        self.assertEqual(run.ring("dst", 0)[3], [("f", 2)])

    def test_nothing_asked_later_changes_what_was_told(self):
        world = pair_world(1, 1, 3, 3)
        run = Run(world)
        told = []
        for ring in range(40):
            told.append((run.ring(("src", "dst")[ring % 2], ALL), run.words("dst"), run.given("f"), run.taken("f")))
            if ring == 4:
                kept = copy.deepcopy(told)
        self.assertEqual(told[:5], kept)
        self.assertNotEqual(told[39][1:], kept[4][1:])
        self.assertEqual(run.taken("f"), [41, 42, 43])

    def test_the_world_stays_and_two_runs_of_it_have_nothing_in_common(self):
        world = pair_world(1, 1, 3, 3)
        kept = copy.deepcopy(world)
        first = Run(world)
        second = Run(world)
        for ring in range(20):
            first.ring(("src", "dst")[ring % 2], ALL)
        self.assertEqual(world, kept)
        self.assertEqual(self.state(second, world), self.state(Run(world), world))
        self.check_rings(second, [("src", 0, 0, ("give", "f", 41), [("f", 0)])])
