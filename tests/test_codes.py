import unittest

from bellferry.codes import code_of, number_of, tear, told_code
from bellferry.errors import NoCode
from bellferry.words import fits

from helper import is_whole, mixed


def ones(word):
    return bin(word).count("1")


def tear_by_hand(code):
    for k in range(len(code)):
        old = code[k]
        new = (code + code[:1])[k + 1]
        places = [bit for bit in range(16) if old // 2 ** bit % 2 != new // 2 ** bit % 2]
        if len(places) > 1:
            return (k, old + (new // 2 ** places[0] % 2 - old // 2 ** places[0] % 2) * 2 ** places[0])
    return None


class TearTest(unittest.TestCase):
    def check(self, code, told):
        handed = list(code)
        answer = tear(handed)
        self.assertEqual(answer, told, code)
        self.assertEqual(handed, code)
        if told is not None:
            self.assertIs(type(answer), tuple)
            self.assertTrue(is_whole(answer[0]))
            self.assertTrue(is_whole(answer[1]))

    def test_safe_codes_have_none(self):
        for code in (
            [0, 1], [1, 0], [65535, 32767], [0, 32768], [0, 1, 3, 2], [5, 4, 6, 7],
            [0, 1, 3, 7, 6, 4], [0, 256, 768, 512],
        ):
            self.check(code, None)

    def test_the_plain_count_tears_at_its_second_place(self):
        self.check([0, 1, 2, 3], (1, 0))
        self.check([0, 1, 2, 3, 4, 5, 6, 7], (1, 0))

    def test_two_words_unlike_in_more_bits_tear_at_the_first_place(self):
        self.check([0, 3], (0, 1))
        self.check([3, 0], (0, 2))
        self.check([0, 65535], (0, 1))
        self.check([65535, 0], (0, 65534))
        self.check([1, 2], (0, 0))
        self.check([2, 1], (0, 3))

    def test_seen_has_the_next_words_bit_at_the_lowest_unlike_bit_alone(self):
        self.check([0b1000, 0b0110], (0, 0b1010))
        self.check([0b0110, 0b1000], (0, 0b0100))
        self.check([0b10001, 0b01001], (0, 0b11001))
        self.check([0, 2 ** 15 + 2 ** 14], (0, 2 ** 14))
        self.check([2 ** 15 + 2 ** 14, 0], (0, 2 ** 15))

    def test_the_first_of_several_places_is_told(self):
        self.check([0, 1, 6, 9, 0xF0], (1, 0))
        self.check([0, 1, 3, 2, 5, 10], (3, 3))

    def test_the_end_leads_back_to_the_first_word(self):
        self.check([0, 1, 3], (2, 2))
        self.check([0, 1, 3, 7], (3, 6))
        self.check([7, 6, 4, 0], (3, 1))
        self.check([0, 2, 6, 14, 12], (4, 8))
        self.check(told_code(6)[:63], (62, 32))

    def test_codes_of_64_words(self):
        self.check(told_code(6), None)
        self.check(list(range(64)), (1, 0))
        self.check([1024 * n for n in range(64)], (1, 0))
        torn_late = told_code(6)[:63] + [2 ** 15]
        self.check(torn_late, (62, 32))

    def test_many_codes(self):
        for start in range(1, 200):
            code = []
            for word in mixed(2 + start % 63, 16 if start % 2 else 4, start):
                if word not in code:
                    code.append(word)
            if len(code) >= 2:
                self.check(code, tear_by_hand(code))

    def test_walks_that_change_few_bits(self):
        for start in range(1, 200):
            code = [start]
            for number in mixed(30, 8, start):
                word = code[-1] ^ 2 ** (number % 16)
                if number > 240:
                    word = word ^ 2 ** (number // 3 % 16)
                if word not in code:
                    code.append(word)
            self.check(code, tear_by_hand(code))

    def refused(self, code):
        handed = list(code)
        with self.assertRaises(NoCode):
            tear(handed)
        self.assertEqual(handed, code)

    def test_too_few_or_too_many_words_are_refused(self):
        self.refused([])
        self.refused([0])
        self.refused([65535])
        self.refused(list(range(65)))
        self.refused(told_code(6) + [64])
        self.refused(list(range(1000)))

    def test_two_and_64_words_are_let_by(self):
        self.assertIsNone(tear([0, 1]))
        self.assertIsNone(tear(told_code(6)))

    def test_two_alike_at_any_places_are_refused(self):
        self.refused([0, 0])
        self.refused([9, 9])
        for count in (3, 5, 64):
            for first in range(count):
                for second in range(first + 1, count):
                    code = told_code(6)[:count]
                    code[second] = code[first]
                    self.refused(code)

    def test_words_of_another_width_are_refused_at_any_place(self):
        for wrong in (-1, -2, -65536, 65536, 65537, 2 ** 64, 10 ** 60, -10 ** 60):
            for count in (2, 4, 64):
                for place in range(count):
                    code = told_code(6)[:count]
                    code[place] = wrong
                    self.refused(code)

    def test_the_edges_of_the_width_are_let_by(self):
        self.assertIsNone(tear([65535, 65534]))
        self.assertIsNone(tear([0, 32768]))

    def test_a_truth_is_no_word(self):
        self.refused([True, 0])
        self.refused([1, False])

    def test_a_refusal_comes_ahead_of_any_tear(self):
        self.refused([0, 3, 0])
        self.refused([0, 3, 65536])
        self.refused([0, 3, -1])


class ToldCodeTest(unittest.TestCase):
    def test_its_words_are_told(self):
        self.assertEqual(told_code(1), [0, 1])
        self.assertEqual(told_code(2), [0, 1, 3, 2])
        self.assertEqual(told_code(3), [0, 1, 3, 2, 6, 7, 5, 4])
        self.assertEqual(told_code(4), [0, 1, 3, 2, 6, 7, 5, 4, 12, 13, 15, 14, 10, 11, 9, 8])

    def test_each_has_all_words_of_its_bits_once(self):
        for m in range(1, 7):
            code = told_code(m)
            self.assertIs(type(code), list)
            self.assertEqual(len(code), 2 ** m)
            self.assertEqual(sorted(code), list(range(2 ** m)))
            self.assertTrue(all(is_whole(word) and fits(16, word) for word in code))

    def test_each_word_is_n_xor_its_half(self):
        for m in range(1, 7):
            self.assertEqual(told_code(m), [n ^ (n // 2) for n in range(2 ** m)])

    def test_each_is_safe(self):
        for m in range(1, 7):
            code = told_code(m)
            self.assertIsNone(tear(code))
            for k in range(len(code)):
                self.assertEqual(ones(code[k] ^ code[k - 1]), 1)

    def test_each_word_leads_back_to_its_place(self):
        for m in range(1, 7):
            for n, word in enumerate(told_code(m)):
                self.assertEqual(number_of(word), n)
                self.assertEqual(code_of(n), word)

    def test_a_told_list_is_the_askers_own(self):
        for m in range(1, 7):
            first = told_code(m)
            kept = list(first)
            second = told_code(m)
            self.assertIsNot(first, second)
            first.reverse()
            first.append(77)
            first[0] = -5
            self.assertEqual(second, kept)
            self.assertEqual(told_code(m), kept)
            second.clear()
            self.assertEqual(told_code(m), kept)
            self.assertEqual([code_of(n) for n in range(2 ** m)], kept)


class CodeOfTest(unittest.TestCase):
    def test_told_ones(self):
        for n, word in ((0, 0), (1, 1), (2, 3), (3, 2), (4, 6), (7, 4), (8, 12), (511, 256), (512, 768), (1023, 512)):
            self.assertEqual(code_of(n), word)
            self.assertEqual(number_of(word), n)

    def test_code_of_and_number_of_lead_to_one_another(self):
        for n in range(1024):
            word = code_of(n)
            self.assertTrue(is_whole(word))
            self.assertTrue(0 <= word <= 1023)
            self.assertEqual(word, n ^ (n // 2))
            self.assertTrue(is_whole(number_of(word)))
            self.assertEqual(number_of(word), n)

    def test_each_word_has_its_number(self):
        numbers = [number_of(word) for word in range(1024)]
        self.assertEqual(sorted(numbers), list(range(1024)))
        for word in range(1024):
            self.assertEqual(code_of(number_of(word)), word)
