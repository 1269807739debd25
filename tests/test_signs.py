import unittest

from bellferry.signs import first_sight, first_sign, moved, sampled, shown, used

from helper import is_whole, mixed

WORDS = [0, 1, 5, 255, 2 ** 63, 2 ** 64 - 1]


class SignTest(unittest.TestCase):
    def test_a_first_sign_has_its_word_twice_and_the_moment_less_one(self):
        for word in WORDS:
            sign = first_sign(word)
            self.assertIs(type(sign), tuple)
            self.assertEqual(sign, (word, word, -1))
            self.assertTrue(all(is_whole(part) for part in sign))

    def test_shown_keeps_the_word_the_one_ahead_and_the_moment(self):
        self.assertEqual(shown(first_sign(4), 7, 0), (7, 4, 0))
        self.assertEqual(shown((7, 4, 0), 9, 3), (9, 7, 3))
        self.assertEqual(shown((9, 7, 3), 7, 4), (7, 9, 4))
        self.assertIs(type(shown((9, 7, 3), 7, 4)), tuple)

    def test_shown_anew_with_the_same_word_there_is_no_change_left(self):
        sign = shown((7, 4, 0), 7, 2)
        self.assertEqual(sign, (7, 7, 2))
        self.assertEqual(shown(first_sign(3), 3, 0), (3, 3, 0))

    def test_a_row_of_words_shown(self):
        words = mixed(40, 16, 3)
        sign = first_sign(words[0])
        for k in range(1, 40):
            sign = shown(sign, words[k], 3 * k)
            self.assertEqual(sign, (words[k], words[k - 1], 3 * k))

    def test_what_was_handed_in_stays(self):
        sign = (7, 4, 2)
        shown(sign, 9, 5)
        sampled(sign, 1, 3)
        self.assertEqual(sign, (7, 4, 2))


class SampledTest(unittest.TestCase):
    def check(self, sign, since, choice, word):
        answer = sampled(sign, since, choice)
        self.assertTrue(is_whole(answer))
        self.assertEqual(answer, word, (sign, since, choice))

    def test_a_ring_of_the_sign_ahead_of_or_at_the_seeing_sides_one_shows_the_word_now(self):
        for since in (5, 6, 7, 1000):
            for choice in (0, 0b0110, 0b1010, 2 ** 64 - 1, 2 ** 100):
                self.check((0b0101, 0b0011, 5), since, choice, 0b0101)

    def test_a_later_ring_of_the_sign_shows_a_word_amid_the_change(self):
        for since in (-1, 0, 3, 4):
            self.check((0b0101, 0b0011, 5), since, 0, 0b0011)
            self.check((0b0101, 0b0011, 5), since, 2 ** 64 - 1, 0b0101)
            self.check((0b0101, 0b0011, 5), since, 0b0010, 0b0001)
            self.check((0b0101, 0b0011, 5), since, 0b0100, 0b0111)
            self.check((0b0101, 0b0011, 5), since, 0b0110, 0b0101)
            self.check((0b0101, 0b0011, 5), since, 0b1001, 0b0011)

    def test_the_first_moment_counts_as_later_than_none(self):
        self.check((1, 0, 0), -1, 0, 0)
        self.check((1, 0, 0), -1, 1, 1)
        self.check((1, 0, 0), 0, 0, 1)

    def test_all_moments_near_each_other(self):
        for moment in range(-1, 6):
            for since in range(-1, 6):
                for choice in range(4):
                    amid = (choice & 1) + (2 - (choice & 2))
                    self.check((1, 2, moment), since, choice, amid if moment > since else 1)

    def test_choices_of_more_than_64_bits(self):
        old, new = 2 ** 63 + 5, 2 ** 64 - 10
        for choice in mixed(30, 64, 7):
            told = sum(2 ** k * ((new if choice >> k & 1 else old) >> k & 1) for k in range(64))
            self.check((new, old, 1), 0, choice, told)
            for above in [1, 2 ** 36 - 1] + mixed(3, 200, 9):
                self.check((new, old, 1), 0, choice + above * 2 ** 64, told)
                self.check((new, old, 1), 1, choice + above * 2 ** 64, new)
        self.check((new, old, 1), 0, 2 ** 64, old)
        self.check((new, old, 1), 0, 2 ** 200 - 1, new)

    def test_a_sign_never_shown(self):
        for word in WORDS:
            for since in (-1, 0, 5):
                for choice in (0, 1, 2 ** 64 - 1, 2 ** 70 + 3):
                    self.check(first_sign(word), since, choice, word)

    def test_a_sign_shown_anew_with_the_same_word(self):
        sign = shown(shown(first_sign(1), 6, 0), 6, 1)
        for choice in (0, 7, 2 ** 64 - 1):
            self.check(sign, -1, choice, 6)
            self.check(sign, 0, choice, 6)
            self.check(sign, 1, choice, 6)


class SightTest(unittest.TestCase):
    def test_at_first_all_stages_have_the_first_word(self):
        for word in WORDS:
            self.assertEqual(first_sight(word, 1), (word,))
            self.assertEqual(first_sight(word, 2), (word, word))
            self.assertEqual(first_sight(word, 3), (word, word, word))
            for stages in (1, 2, 3):
                self.assertIs(type(first_sight(word, stages)), tuple)
                self.assertEqual(used(first_sight(word, stages)), word)

    def test_moved_puts_the_word_ahead_and_drops_the_last(self):
        self.assertEqual(moved((4,), 9), (9,))
        self.assertEqual(moved((4, 5), 9), (9, 4))
        self.assertEqual(moved((4, 5, 6), 9), (9, 4, 5))
        for sight in ((4,), (4, 5), (4, 5, 6)):
            self.assertIs(type(moved(sight, 9)), tuple)

    def test_used_is_the_last_stage(self):
        self.assertEqual(used((4,)), 4)
        self.assertEqual(used((4, 5)), 5)
        self.assertEqual(used((4, 5, 6)), 6)
        self.assertTrue(is_whole(used((4, 5, 6))))

    def test_what_is_sampled_at_a_ring_is_used_stages_rings_later(self):
        words = mixed(50, 16, 5)
        for stages in (1, 2, 3):
            sight = first_sight(77, stages)
            for ring in range(50):
                self.assertEqual(len(sight), stages)
                self.assertEqual(used(sight), words[ring - stages] if ring >= stages else 77)
                sight = moved(sight, words[ring])

    def test_what_was_handed_in_stays(self):
        for sight in ((4,), (4, 5), (4, 5, 6)):
            kept = tuple(list(sight))
            moved(sight, 9)
            used(sight)
            self.assertEqual(sight, kept)

    def test_a_sign_seen_late_from_side_to_side(self):
        """One side sees at each third moment, the other one shows at the even ones between."""
        for stages in (1, 2, 3):
            sign = first_sign(0)
            sight = first_sight(0, stages)
            since = -1
            samples = [0] * stages
            for moment in range(60):
                if moment % 3 == 0:
                    self.assertEqual(used(sight), samples[-stages])
                    changed = sign[2] > since
                    word = sampled(sign, since, 0)
                    self.assertEqual(word, sign[1] if changed else sign[0])
                    samples.append(word)
                    sight = moved(sight, word)
                    since = moment
                elif moment % 2 == 0:
                    sign = shown(sign, moment, moment)
            self.assertEqual(sight, tuple(reversed(samples[-stages:])))
