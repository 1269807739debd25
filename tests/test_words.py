import unittest

from bellferry.words import amid, cut, fits, is_width

from helper import is_whole, mixed

SIXTY = 10 ** 59 + 271828182845904523536
WIDTHS = range(1, 65)


class IsWidthTest(unittest.TestCase):
    def test_each_width_is_one(self):
        for number in WIDTHS:
            self.assertIs(is_width(number), True, number)

    def test_numbers_beside_and_far_beyond_are_none(self):
        for number in (0, 65, 66, 128, -1, -64, -65, 2 ** 64, -2 ** 64, SIXTY, -SIXTY, 10 ** 299):
            self.assertIs(is_width(number), False, number)

    def test_a_truth_is_no_whole_number(self):
        self.assertIs(is_width(True), False)
        self.assertIs(is_width(False), False)


class FitsTest(unittest.TestCase):
    def test_the_edges_of_each_width(self):
        for width in WIDTHS:
            with self.subTest(width=width):
                self.assertIs(fits(width, -1), False)
                self.assertIs(fits(width, 0), True)
                self.assertIs(fits(width, 1), True)
                self.assertIs(fits(width, 2 ** width - 1), True)
                self.assertIs(fits(width, 2 ** width), False)
                self.assertIs(fits(width, 2 ** width + 1), False)
                self.assertIs(fits(width, -2 ** width), False)

    def test_numbers_of_sixty_figures_fit_no_width(self):
        self.assertEqual(len(str(SIXTY)), 60)
        for width in WIDTHS:
            self.assertIs(fits(width, SIXTY), False)
            self.assertIs(fits(width, -SIXTY), False)

    def test_all_numbers_near_a_narrow_width(self):
        for width in range(1, 6):
            for number in range(-70, 70):
                self.assertIs(fits(width, number), 0 <= number <= 2 ** width - 1, (width, number))

    def test_a_truth_is_no_word(self):
        self.assertIs(fits(8, True), False)
        self.assertIs(fits(8, False), False)


class CutTest(unittest.TestCase):
    def check(self, width, number):
        """A rest is told by two things: its bounds, and that it is whole multiples away."""
        word = cut(width, number)
        self.assertTrue(is_whole(word))
        self.assertLessEqual(0, word)
        self.assertLess(word, 2 ** width)
        self.assertEqual((number - word) // 2 ** width * 2 ** width, number - word)
        self.assertIs(fits(width, word), True)
        self.assertEqual(cut(width, word), word)

    def test_told_ones(self):
        for width, number, word in (
            (1, 0, 0), (1, 1, 1), (1, 2, 0), (1, -1, 1), (1, -2, 0), (8, 255, 255), (8, 256, 0),
            (8, 257, 1), (8, -1, 255), (8, -255, 1), (8, -256, 0), (8, -257, 255), (8, 1000, 232),
            (64, 2 ** 64, 0), (64, 2 ** 64 - 1, 2 ** 64 - 1), (64, -1, 2 ** 64 - 1),
        ):
            self.assertEqual(cut(width, number), word, (width, number))

    def test_each_width_below_nought_and_at_its_edges(self):
        for width in WIDTHS:
            with self.subTest(width=width):
                self.assertEqual(cut(width, -1), 2 ** width - 1)
                self.assertEqual(cut(width, -2 ** width), 0)
                self.assertEqual(cut(width, -2 ** width - 1), 2 ** width - 1)
                self.assertEqual(cut(width, 2 ** width - 1), 2 ** width - 1)
                for times in (0, 1, 2, 3, 7, 1000, -1, -2, -5, SIXTY, -SIXTY):
                    self.assertEqual(cut(width, times * 2 ** width), 0)
                    self.assertEqual(cut(width, times * 2 ** width + 1), 1)
                for number in (-3, -2, -1, 0, 1, 2, 3, SIXTY, -SIXTY, SIXTY + 1, -SIXTY - 1):
                    self.check(width, number)

    def test_many_numbers_either_way(self):
        for width in WIDTHS:
            for number in mixed(20, 200, width):
                self.check(width, number)
                self.check(width, -number)

    def test_a_word_stays(self):
        for width in WIDTHS:
            for word in [0, 1, 2 ** width - 1] + mixed(10, width, width + 3):
                self.assertEqual(cut(width, word), word)


def amid_bit_by_bit(old, new, choice):
    word = 0
    for k in range(64):
        old_bit = old // 2 ** k % 2
        new_bit = new // 2 ** k % 2
        if old_bit == new_bit:
            bit = old_bit
        elif choice // 2 ** k % 2 == 1:
            bit = new_bit
        else:
            bit = old_bit
        word = word + bit * 2 ** k
    return word


class AmidTest(unittest.TestCase):
    def check(self, old, new, choice):
        seen = amid(old, new, choice)
        self.assertTrue(is_whole(seen))
        self.assertEqual(seen, amid_bit_by_bit(old, new, choice), (old, new, choice))

    def test_all_words_and_choices_of_three_bits(self):
        for old in range(8):
            for new in range(8):
                for choice in range(16):
                    self.check(old, new, choice)

    def test_told_ones(self):
        self.assertEqual(amid(0b0011, 0b0101, 0b0010), 0b0001)
        self.assertEqual(amid(0b0011, 0b0101, 0b0100), 0b0111)
        self.assertEqual(amid(0b0011, 0b0101, 0b1001), 0b0011)
        self.assertEqual(amid(0b0011, 0b0101, 0b0110), 0b0101)

    def test_alike_words_stay_whatever_is_chosen(self):
        for word in [0, 1, 2 ** 63, 2 ** 64 - 1] + mixed(20, 64):
            for choice in [0, 1, 2 ** 64 - 1, 2 ** 64, SIXTY] + mixed(10, 100, 5):
                self.assertEqual(amid(word, word, choice), word)

    def test_words_unlike_in_one_bit(self):
        for k in range(64):
            for old in [0, 2 ** 64 - 1] + mixed(5, 64, k + 1):
                new = old ^ 2 ** k
                self.assertEqual(amid(old, new, 0), old)
                self.assertEqual(amid(old, new, 2 ** k), new)
                self.assertEqual(amid(old, new, 2 ** 64 - 1 - 2 ** k), old)
                self.assertEqual(amid(old, new, 2 ** 64 - 1), new)

    def test_the_choice_nought_sees_old_and_all_ones_new(self):
        words = [0, 1, 2 ** 32, 2 ** 63, 2 ** 64 - 1] + mixed(10, 64)
        for old in words:
            for new in words:
                self.assertEqual(amid(old, new, 0), old)
                self.assertEqual(amid(old, new, 2 ** 64 - 1), new)

    def test_each_single_bit_of_a_choice(self):
        for k in range(64):
            self.assertEqual(amid(0, 2 ** 64 - 1, 2 ** k), 2 ** k)
            self.assertEqual(amid(2 ** 64 - 1, 0, 2 ** k), 2 ** 64 - 1 - 2 ** k)

    def test_many_words_and_choices(self):
        olds = mixed(60, 64, 11)
        news = mixed(60, 64, 12)
        for old, new, choice in zip(olds, news, mixed(60, 64, 13)):
            self.check(old, new, choice)
            self.check(new, old, choice)

    def test_choices_of_more_than_64_bits(self):
        for old, new, choice in zip(mixed(40, 64, 21), mixed(40, 64, 22), mixed(40, 300, 23)):
            self.check(old, new, choice)
            self.assertEqual(amid(old, new, choice), amid(old, new, choice % 2 ** 64))
        self.assertEqual(amid(0, 2 ** 64 - 1, 2 ** 64), 0)
        self.assertEqual(amid(2 ** 64 - 1, 0, 2 ** 64), 2 ** 64 - 1)
        self.assertEqual(amid(0, 2 ** 64 - 1, 2 ** 200 - 1), 2 ** 64 - 1)
