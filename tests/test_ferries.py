import itertools
import unittest

from bellferry.codes import code_of
from bellferry.ferries import Ferry

from helper import FerryByHand, is_whole, mixed

ALL = 2 ** 64 - 1
SIZES = [(k, stages) for k in range(4) for stages in (1, 2, 3)]


class FerryTest(unittest.TestCase):
    def check_kinds(self, ferry, told):
        self.assertIs(type(told), tuple)
        self.assertEqual(len(told), 2)
        self.assertTrue(is_whole(told[1]))
        counts = ferry.counts()
        self.assertIs(type(counts), tuple)
        self.assertEqual(len(counts), 2)
        self.assertTrue(all(is_whole(count) for count in counts))

    def give(self, ferry, moment, choice, word):
        told = ferry.ring_giver(moment, choice, word)
        self.check_kinds(ferry, told)
        self.assertIs(type(told[0]), bool)
        return told

    def take(self, ferry, moment, choice, wished):
        told = ferry.ring_taker(moment, choice, wished)
        self.check_kinds(ferry, told)
        self.assertTrue(told[0] is None or is_whole(told[0]))
        return told

    def filled(self, k, stages, words):
        """A ferry with these words given, at the moments from 0 on, and none taken."""
        ferry = Ferry(k, stages)
        for moment, word in enumerate(words):
            self.assertEqual(self.give(ferry, moment, 0, word), (True, 0))
        self.assertEqual(ferry.counts(), (len(words), 0))
        return ferry


class RingTest(FerryTest):
    def test_at_first_nothing_is_given_or_taken(self):
        for k, stages in SIZES:
            self.assertEqual(Ferry(k, stages).counts(), (0, 0))

    def test_a_ferry_of_one_place_and_one_stage_ring_by_ring(self):
        ferry = Ferry(0, 1)
        self.assertEqual(self.give(ferry, 0, 0, 5), (True, 0))
        self.assertEqual(self.take(ferry, 1, 0, True), (None, 0))
        self.assertEqual(self.take(ferry, 2, 0, True), (None, 1))
        self.assertEqual(ferry.counts(), (1, 0))
        self.assertEqual(self.take(ferry, 3, 0, True), (5, 1))
        self.assertEqual(ferry.counts(), (1, 1))
        self.assertEqual(self.give(ferry, 4, 1, 6), (False, 1))
        self.assertEqual(ferry.counts(), (1, 1))
        self.assertEqual(self.give(ferry, 5, 0, 6), (True, 1))
        self.assertEqual(self.take(ferry, 6, 1, True), (None, 0))
        self.assertEqual(self.take(ferry, 7, 0, True), (6, 0))
        self.assertEqual(ferry.counts(), (2, 2))

    def test_a_ferry_of_two_places_and_two_stages_ring_by_ring(self):
        ferry = Ferry(1, 2)
        self.assertEqual(self.give(ferry, 0, 0, 7), (True, 0))
        self.assertEqual(self.give(ferry, 1, 0, 8), (True, 0))
        self.assertEqual(self.give(ferry, 2, 0, 9), (False, 0))
        self.assertEqual(self.take(ferry, 3, 0, True), (None, 3))
        self.assertEqual(self.take(ferry, 4, 0, True), (None, 3))
        self.assertEqual(self.take(ferry, 5, 0, True), (7, 3))
        self.assertEqual(self.give(ferry, 6, 0, 9), (False, 0))
        self.assertEqual(self.give(ferry, 7, 0, 9), (False, 1))
        self.assertEqual(self.give(ferry, 8, 0, 9), (False, 1))
        self.assertEqual(self.give(ferry, 9, 0, 9), (True, 1))
        self.assertEqual(self.take(ferry, 10, 0, True), (8, 3))
        self.assertEqual(self.take(ferry, 11, 0, True), (None, 2))
        self.assertEqual(self.take(ferry, 12, 0, True), (None, 2))
        self.assertEqual(self.take(ferry, 13, 0, True), (9, 2))
        self.assertEqual(ferry.counts(), (3, 3))

    def test_none_handed_gives_nothing_though_there_is_room(self):
        for k, stages in SIZES:
            ferry = Ferry(k, stages)
            for moment in range(5):
                self.assertEqual(self.give(ferry, moment, ALL, None), (False, 0))
            self.assertEqual(ferry.counts(), (0, 0))
            self.assertEqual(self.give(ferry, 5, ALL, 3), (True, 0))

    def test_none_handed_to_a_full_ferry(self):
        ferry = self.filled(1, 1, [4, 5])
        self.assertEqual(self.give(ferry, 2, ALL, None), (False, 0))
        self.assertEqual(ferry.counts(), (2, 0))

    def test_nought_is_a_word_like_others(self):
        ferry = self.filled(1, 1, [0, 0])
        self.assertEqual(self.take(ferry, 2, 0, True), (None, 1))
        self.assertEqual(self.take(ferry, 3, 0, True), (0, 3))
        self.assertEqual(self.take(ferry, 4, 0, True), (0, 3))
        self.assertEqual(self.take(ferry, 5, 0, True), (None, 3))
        self.assertEqual(ferry.counts(), (2, 2))

    def test_what_is_not_wished_for_stays(self):
        for k, stages in SIZES:
            ferry = self.filled(k, stages, [9])
            for moment in range(1, 8):
                self.assertEqual(self.take(ferry, moment, ALL, False), (None, 1))
            self.assertEqual(ferry.counts(), (1, 0))
            self.assertEqual(self.take(ferry, 8, 0, True), (9, 1))
            self.assertEqual(ferry.counts(), (1, 1))

    def test_a_ferry_is_full_with_two_to_the_k_words(self):
        for k, stages in SIZES:
            ferry = self.filled(k, stages, list(range(2 ** k)))
            for moment in range(2 ** k, 2 ** k + 5):
                self.assertEqual(self.give(ferry, moment, 0, 99), (False, 0))
            self.assertEqual(ferry.counts(), (2 ** k, 0))

    def test_a_given_word_is_seen_one_ring_and_the_stages_later(self):
        """All bits old are chosen at the first ring; at the next one there is no change to be seen."""
        for k, stages in SIZES:
            ferry = self.filled(k, stages, [ALL])
            self.assertEqual(self.take(ferry, 1, 0, True), (None, 0))
            for late in range(stages):
                self.assertEqual(self.take(ferry, 2 + late, 0, True), (None, 1))
            self.assertEqual(self.take(ferry, 2 + stages, 0, True), (ALL, 1))

    def test_a_given_word_seen_at_once_is_used_the_stages_later(self):
        for k, stages in SIZES:
            ferry = self.filled(k, stages, [ALL])
            for late in range(stages):
                self.assertEqual(self.take(ferry, 1 + late, 1, True), (None, 1))
            self.assertEqual(self.take(ferry, 1 + stages, 0, True), (ALL, 1))

    def test_a_freed_place_is_seen_late_too(self):
        for k, stages in SIZES:
            for choice in (0, 1):
                size = 2 ** k
                ferry = self.filled(k, stages, list(range(size)))
                moment = size
                while ferry.counts()[1] == 0:
                    self.take(ferry, moment, ALL, True)
                    moment += 1
                late = stages + (1 if choice == 0 else 0)
                for ring in range(late):
                    told = self.give(ferry, moment + ring, choice, 77)
                    self.assertEqual(told, (False, choice if ring == 0 else 1))
                self.assertEqual(self.give(ferry, moment + late, choice, 77), (True, 1))

    def test_samples_are_the_told_code_of_k_and_one_bits(self):
        for k, stages in SIZES:
            ferry = Ferry(k, stages)
            moment = 0
            for word in range(5 * 2 ** k):
                before = ferry.counts()[0]
                while ferry.counts()[0] == before:
                    self.give(ferry, moment, ALL, word)
                    moment += 1
                while ferry.counts()[1] == before:
                    sample = self.take(ferry, moment, ALL, True)[1]
                    moment += 1
                    self.assertEqual(sample, code_of((before + 1) % 2 ** (k + 1)))
                sample = self.give(ferry, moment, ALL, None)[1]
                moment += 1
                self.assertEqual(sample, code_of((before + 1) % 2 ** (k + 1)))

    def test_a_sample_amid_a_change_has_the_bits_that_the_choice_says(self):
        """From count 1 to count 2 the word goes from 1 to 3: the bit of worth 2 alone is chosen."""
        for choice, seen in ((0, 1), (1, 1), (2, 3), (3, 3), (4, 1), (ALL, 3), (2 ** 80, 1), (2 ** 80 + 2, 3)):
            ferry = self.filled(1, 1, [8])
            self.assertEqual(self.take(ferry, 1, 1, False), (None, 1))
            self.assertEqual(self.give(ferry, 2, 0, 9), (True, 0))
            self.assertEqual(self.take(ferry, 3, choice, False), (None, seen))
            self.assertEqual(self.take(ferry, 4, 0, False), (None, 3))

    def test_a_later_ring_that_gives_nothing_ends_the_change(self):
        for choice in (0, 1, ALL):
            ferry = self.filled(2, 1, [8])
            self.assertEqual(self.give(ferry, 1, 0, None), (False, 0))
            self.assertEqual(self.take(ferry, 2, choice, False), (None, 1))

    def test_several_gives_between_two_rings_are_seen_but_for_the_last(self):
        for choice, seen in ((0, 2), (4, 6), (ALL, 6), (1, 2)):
            ferry = self.filled(2, 1, [8, 9, 10, 11])
            self.assertEqual(self.take(ferry, 4, choice, False), (None, seen))

    def test_moments_may_be_far_apart(self):
        ferry = Ferry(0, 1)
        self.assertEqual(self.give(ferry, 10 ** 12, 0, 5), (True, 0))
        self.assertEqual(self.take(ferry, 10 ** 13, 0, True), (None, 0))
        self.assertEqual(self.take(ferry, 10 ** 14, 0, True), (None, 1))
        self.assertEqual(self.take(ferry, 10 ** 15, 0, True), (5, 1))

    def test_two_ferries_have_nothing_in_common(self):
        first = self.filled(1, 1, [4, 5])
        second = Ferry(1, 1)
        self.assertEqual(second.counts(), (0, 0))
        self.assertEqual(self.give(second, 2, 0, 6), (True, 0))
        for moment in (3, 4, 5):
            told = self.take(first, moment, 0, True)
        self.assertEqual(told, (5, 3))
        self.assertEqual(second.counts(), (1, 0))


class OrderTest(FerryTest):
    """Whatever the order of the rings: held against a ferry made another way, and against what was given."""

    def check_row(self, k, stages, rings, start=0):
        """Each ring is (side, choice, word or wish); the moments leave gaps that differ."""
        ferry = Ferry(k, stages)
        other = FerryByHand(k, stages)
        moment = start
        # What each side showed from the other side's ring ahead on.
        since = {"giver": [0], "taker": [0]}
        for side, choice, handed in rings:
            if side == "giver":
                told = self.give(ferry, moment, choice, handed)
                self.assertEqual(told, other.ring_giver(moment, choice, handed))
            else:
                told = self.take(ferry, moment, choice, handed)
                self.assertEqual(told, other.ring_taker(moment, choice, handed))
            counts = ferry.counts()
            self.assertEqual(counts, (len(other.given), len(other.taken)))
            self.assertTrue(0 <= counts[0] - counts[1] <= 2 ** k)
            seen, own = ("taker", 0) if side == "giver" else ("giver", 1)
            self.assertIn(told[1], since[seen])
            since[seen] = since[seen][-1:]
            since[side].append(code_of(counts[own] % 2 ** (k + 1)))
            moment += 1 + moment % 3
        self.assertEqual(other.taken, other.given[:len(other.taken)])
        return ferry.counts()

    def test_all_short_orders_and_choices(self):
        for k, stages in ((0, 1), (0, 2), (1, 1)):
            words = itertools.count(1)
            rows = itertools.product([("giver", 0), ("giver", ALL), ("taker", 0), ("taker", ALL)], repeat=6)
            for row in rows:
                self.check_row(k, stages, [
                    (side, choice, next(words) if side == "giver" else True) for side, choice in row
                ])

    def test_long_mixed_rows(self):
        for k, stages in SIZES:
            for start in range(1, 9):
                row = mixed(1600, 70, 13 * start + k)
                rings = []
                while len(rings) < 300:
                    lot = row.pop()
                    side = "giver" if lot // 4 % 16 < (4, 8, 12, 8)[start % 4] else "taker"
                    handed = row.pop() % 2 ** 64 if side == "giver" else True
                    if lot // 2 ** 10 % 5 == 0:
                        handed = None if side == "giver" else False
                    choice = (0, ALL, row.pop(), row.pop() * 2 ** 64 + row.pop())[lot // 2 ** 20 % 4]
                    rings.append((side, choice, handed))
                given, taken = self.check_row(k, stages, rings, lot % 50)
                self.assertGreater(taken, 8)

    def test_a_taken_word_does_not_hang_on_the_choice(self):
        for k, stages in SIZES:
            sides = ["giver" if lot % 2 else "taker" for lot in mixed(250, 9, 7 + k)]
            rows = []
            for choice in (0, ALL):
                ferry = Ferry(k, stages)
                words = iter(mixed(250, 64, 3))
                row = []
                for moment, side in enumerate(sides):
                    # The bits of the words above the code's own are chosen freely.
                    bits = choice - choice % 16
                    if side == "giver":
                        ferry.ring_giver(moment, bits, next(words))
                    else:
                        row.append(ferry.ring_taker(moment, bits, True)[0])
                rows.append(row)
            self.assertEqual(rows[0], rows[1])
            self.assertGreater(len([word for word in rows[0] if word is not None]), 8)
