"""The promise over the whole: runs held against the plain machine."""

import itertools
import unittest

from bellferry.bounds import bounds, stretches, track
from bellferry.plain import first_stand, run_plain
from bellferry.runs import Run
from bellferry.texts import read, written
from bellferry.worlds import made

from helper import busy_world, grown_world, mixed, num, rings_of, round_by_hand, var

ALL = 2 ** 400 - 1


def names_of(world):
    return [island[0] for island in world[1]]


def choices_of(count, start):
    """All late, all at once, by turns, or mixed."""
    if start % 5 < 2:
        return [(0, ALL)[start % 5]] * count
    if start % 5 == 2:
        return [(0, ALL)[k % 2] for k in range(count)]
    return mixed(count, 120, start)


def given_by_hand(world, n):
    stand = first_stand(world)
    for _ in range(n):
        stand = round_by_hand(world, stand)[0]
    return stand[2]


class WholeTest(unittest.TestCase):
    def rung(self, world, rings, choices):
        run = Run(world)
        for name, choice in zip(rings, choices):
            run.ring(name, choice)
        return run

    def check(self, world, rings, run):
        """A run behind these rings is the plain machine's, only slower."""
        given = given_by_hand(world, len(rings))
        for ferry in world[2]:
            told = run.given(ferry[0])
            self.assertEqual(told, given[ferry[0]][:len(told)])
            self.assertEqual(run.taken(ferry[0]), told[:len(run.taken(ferry[0]))])
            self.assertLessEqual(len(told) - len(run.taken(ferry[0])), 2 ** ferry[3])
        least, most = bounds(world, rings)
        rows = track(world, len(rings))
        for name in names_of(world):
            done = run.steps_done(name)
            self.assertTrue(least[name] <= done <= most[name], (name, least, done, most))
            self.assertEqual((run.number(name), run.words(name)), rows[name][done])
        return sum(run.steps_done(name) for name in names_of(world))


class MannerTest(WholeTest):
    def check_worlds(self, grow, starts, counts):
        steps = 0
        for start in starts:
            world = made(*grow(start))
            for count in counts:
                rings = rings_of(names_of(world), count, start // 2 + count)
                steps += self.check(world, rings, self.rung(world, rings, choices_of(count, start)))
        return steps

    def test_many_worlds(self):
        self.check_worlds(grown_world, range(1, 120), (3, 30, 120))

    def test_worlds_that_go_on(self):
        self.assertGreater(self.check_worlds(busy_world, range(1, 120), (5, 40, 150)), 5000)

    def test_behind_each_ring(self):
        for start in range(1, 12):
            world = made(*busy_world(start))
            rings = rings_of(names_of(world), 60, start)
            run = Run(world)
            for count, choice in enumerate(choices_of(60, start)):
                run.ring(rings[count], choice)
                self.check(world, rings[:count + 1], run)

    def test_all_short_rows_of_rings_and_choices(self):
        for k, stages in ((0, 1), (1, 2)):
            world = made(8, [
                ("p", [("a", 1)], [("give", "f", var("a")), ("put", "a", ("plus", var("a"), num(1))), ("jump", num(1), 0)]),
                ("q", [("a", 0)], [("take", "f", "a"), ("jump", num(1), 0)]),
            ], [("f", "p", "q", k, stages)])
            rows = track(world, 6)
            given = run_plain(world, 6)[6][2]["f"]
            for row in itertools.product([("p", 0), ("p", ALL), ("q", 0), ("q", ALL)], repeat=6):
                run = self.rung(world, [ring[0] for ring in row], [ring[1] for ring in row])
                self.assertEqual(run.given("f"), given[:len(run.given("f"))])
                self.assertEqual(run.taken("f"), given[:len(run.taken("f"))])
                for name in ("p", "q"):
                    self.assertEqual((run.number(name), run.words(name)), rows[name][run.steps_done(name)])

    def test_a_world_read_from_its_text_runs_as_the_one_written(self):
        for start in range(1, 20):
            world = made(*busy_world(start))
            rings = rings_of(names_of(world), 80, start)
            first, second = Run(world), Run(read(written(world)))
            for name, choice in zip(rings, choices_of(80, start)):
                self.assertEqual(first.ring(name, choice), second.ring(name, choice))


class LeastTest(WholeTest):
    def test_each_round_takes_at_most_the_stages_and_two_stretches(self):
        """Each bell rings once a stretch, in an order that differs, and all that can be seen late is."""
        for start in range(1, 30):
            world = made(*busy_world(start))
            names = names_of(world)
            a_round = 2 + max(ferry[4] for ferry in world[2])
            turns = mixed(15 * a_round, 12, start)
            run = Run(world)
            rings = []
            stand = first_stand(world)
            done = {name: 0 for name in names}
            for rounds in range(15):
                for turn in turns[rounds * a_round:(rounds + 1) * a_round]:
                    at = turn % len(names)
                    rings.extend((names[at:] + names[:at])[::1 - 2 * (turn // 16 % 2)])
                    for name in rings[-len(names):]:
                        run.ring(name, 0)
                stand, went_on = round_by_hand(world, stand)
                for name in went_on:
                    done[name] += 1
                for name in names:
                    self.assertGreaterEqual(run.steps_done(name), done[name])
            self.assertEqual(stretches(world, rings), 15 * a_round)
            self.assertEqual(bounds(world, rings)[0], done)
            self.check(world, rings, run)


class StandstillTest(WholeTest):
    def check_standstill(self, world, stand, run, rounds, start):
        """A run whose bells have rung long enough stands where the plain machine does, and stays there."""
        names = names_of(world)
        a_round = 2 + max([ferry[4] for ferry in world[2]] + [0])
        count = len(names) * a_round * rounds
        lots = mixed(count + 3 * len(names), 100, start)
        for ring, lot in enumerate(lots):
            event = run.ring(names[ring % len(names)], (0, ALL, lot)[start % 3])
            if ring >= count:
                self.assertIn(event[2][0], ("done", "wait"))
                self.assertEqual({name: run.number(name) for name in names}, stand[0])
                self.assertEqual({name: run.words(name) for name in names}, stand[1])
                self.assertEqual({ferry[0]: run.given(ferry[0]) for ferry in world[2]}, stand[2])
                self.assertEqual({ferry[0]: len(run.taken(ferry[0])) for ferry in world[2]}, stand[3])

    def standstill(self, world, most):
        stand = first_stand(world)
        for rounds in range(most):
            behind, names = round_by_hand(world, stand)
            if not names:
                return stand, rounds
            stand = behind
        return None, most

    def test_where_the_plain_machine_stands_still_a_run_comes_to_the_same_standstill(self):
        stood = 0
        steps = 0
        for start in range(1, 200):
            world = made(*grown_world(start))
            stand, rounds = self.standstill(world, 40)
            if stand is not None:
                run = Run(world)
                # A row of rings without any order ahead of those that go on by turns.
                for name in rings_of(names_of(world), start % 50, start):
                    run.ring(name, start)
                self.check_standstill(world, stand, run, rounds, start)
                stood += 1
                steps += sum(run.steps_done(name) for name in names_of(world))
        self.assertGreater(stood, 60)
        self.assertGreater(steps, 400)

    def test_islands_that_carry_words_and_are_done(self):
        for k, stages in itertools.product(range(4), (1, 2, 3)):
            world = made(16, [
                ("src", [("n", 5)], [
                    ("give", "f", ("times", var("n"), var("n"))), ("put", "n", ("minus", var("n"), num(1))),
                    ("jump", var("n"), 0),
                ]),
                ("mid", [("a", 0)], [("take", "f", "a"), ("give", "g", ("plus", var("a"), num(1))), ("jump", num(1), 0)]),
                ("dst", [("s", 0), ("a", 0), ("n", 5)], [
                    ("take", "g", "a"), ("put", "s", ("plus", var("s"), var("a"))),
                    ("put", "n", ("minus", var("n"), num(1))), ("jump", var("n"), 0),
                ]),
            ], [("f", "src", "mid", k, stages), ("g", "mid", "dst", 3 - k, 4 - stages)])
            stand, rounds = self.standstill(world, 100)
            self.assertEqual(stand[1]["dst"], {"s": 60, "a": 2, "n": 0})
            for start in range(3):
                run = Run(world)
                self.check_standstill(world, stand, run, rounds, start)
                self.assertEqual(run.taken("g"), [26, 17, 10, 5, 2])

    def test_islands_that_wait_for_one_another_for_ever(self):
        world = made(8, [
            ("p", [("a", 0)], [("give", "f", num(1)), ("take", "g", "a"), ("take", "g", "a")]),
            ("q", [("a", 0)], [("give", "g", num(2)), ("take", "f", "a"), ("take", "f", "a")]),
        ], [("f", "p", "q", 0, 2), ("g", "q", "p", 0, 1)])
        stand, rounds = self.standstill(world, 20)
        self.assertEqual((stand[0], rounds), ({"p": 2, "q": 2}, 2))
        for start in range(3):
            self.check_standstill(world, stand, Run(world), rounds, start)
