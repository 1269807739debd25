import copy
import unittest

from bellferry.terms import size_of, vars_in, worth

from helper import TWOS, deep, grown, is_whole, mixed, num, var, worth_by_hand

FORTY = 1234567890123456789012345678901234567890


def two_hundred_parts():
    """98 of two and one of three: 2 * 98 + 3 + 1 parts, 40 deep."""
    chain = deep(38)
    side = var("c")
    for k in range(30):
        side = ("minus", side, num(-k))
    other = num(7)
    for k in range(30):
        other = ("times", other, ("num", 2 * k + 1))
    term = ("plus", ("pick", side, chain, other), var("d"))
    return term


class SizeTest(unittest.TestCase):
    def check(self, term, parts, depth):
        size = size_of(term)
        self.assertIs(type(size), tuple)
        self.assertEqual(size, (parts, depth))
        self.assertTrue(is_whole(size[0]) and is_whole(size[1]))

    def test_the_first_two_forms_are_one_part_and_one_deep(self):
        for n in (0, 1, -1, FORTY, -FORTY):
            self.check(num(n), 1, 1)
        self.check(var("a"), 1, 1)
        self.check(var("abcdefgh"), 1, 1)

    def test_each_form_of_two(self):
        for form in TWOS:
            self.check((form, num(1), var("a")), 3, 2)
            self.check((form, (form, num(1), num(2)), var("a")), 5, 3)
            self.check((form, var("a"), (form, num(1), num(2))), 5, 3)

    def test_pick_has_three(self):
        inner = ("plus", num(1), num(2))
        self.check(("pick", num(1), num(2), num(3)), 4, 2)
        self.check(("pick", inner, num(2), num(3)), 6, 3)
        self.check(("pick", num(1), inner, num(3)), 6, 3)
        self.check(("pick", num(1), num(2), inner), 6, 3)
        self.check(("pick", inner, inner, inner), 10, 3)

    def test_a_part_counts_as_often_as_it_stands_there(self):
        term = var("a")
        parts = 1
        for depth in range(2, 8):
            term = ("times", term, term)
            parts = 2 * parts + 1
            self.check(term, parts, depth)

    def test_the_deepest_counts_wherever_it_stands(self):
        long = deep(9)
        short = deep(3)
        self.check(("less", long, short), 17 + 5 + 1, 10)
        self.check(("less", short, long), 17 + 5 + 1, 10)
        self.check(("pick", short, long, short), 17 + 5 + 5 + 1, 10)

    def test_names_and_nums_that_are_called_as_forms(self):
        self.check(("plus", var("num"), var("pick")), 3, 2)

    def test_40_deep(self):
        for form in TWOS:
            self.check(deep(40, form), 79, 40)
        self.check(deep(40, "pick"), 1 + 3 * 39, 40)

    def test_200_parts(self):
        self.check(two_hundred_parts(), 200, 40)


class VarsInTest(unittest.TestCase):
    def check(self, term, names):
        told = vars_in(term)
        self.assertIs(type(told), list)
        self.assertEqual(told, names)

    def test_the_first_two_forms(self):
        self.check(num(5), [])
        self.check(num(-FORTY), [])
        self.check(var("x"), ["x"])
        self.check(var("abcdefgh"), ["abcdefgh"])

    def test_each_form_of_two_reads_both(self):
        for form in TWOS:
            self.check((form, num(1), num(2)), [])
            self.check((form, var("a"), num(2)), ["a"])
            self.check((form, num(1), var("b")), ["b"])
            self.check((form, var("a"), var("b")), ["a", "b"])
            self.check((form, var("b"), var("a")), ["a", "b"])
            self.check((form, var("b"), var("b")), ["b"])

    def test_pick_reads_all_three_though_one_is_not_picked(self):
        self.check(("pick", var("c"), var("b"), var("a")), ["a", "b", "c"])
        self.check(("pick", num(0), var("b"), var("a")), ["a", "b"])
        self.check(("pick", num(1), var("b"), var("a")), ["a", "b"])
        self.check(("pick", var("z"), num(1), num(2)), ["z"])

    def test_rising_as_texts_and_each_once(self):
        names = ["b", "ab", "a", "z", "aa", "abcdefgh", "zz", "b", "a", "ba", "z"]
        term = num(0)
        for name in names:
            term = ("plus", var(name), term)
        self.check(term, ["a", "aa", "ab", "abcdefgh", "b", "ba", "z", "zz"])

    def test_names_that_are_called_as_forms(self):
        self.check(("same", var("var"), var("num")), ["num", "var"])

    def test_a_new_list_each_time(self):
        term = ("plus", var("b"), var("a"))
        first = vars_in(term)
        second = vars_in(term)
        self.assertIsNot(first, second)
        first.append("q")
        first[0] = "z"
        self.assertEqual(second, ["a", "b"])
        self.assertEqual(vars_in(term), ["a", "b"])
        empty = vars_in(num(1))
        empty.append("q")
        self.assertEqual(vars_in(num(1)), [])

    def test_40_deep_and_200_parts(self):
        self.check(deep(40), ["a"])
        self.check(deep(40, "pick"), ["a", "b"])
        self.check(two_hundred_parts(), ["a", "c", "d"])


class WorthTest(unittest.TestCase):
    def check(self, term, width, words, told):
        handed = copy.deepcopy(words)
        answer = worth(term, width, handed)
        self.assertEqual(answer, told, (term, width, words))
        self.assertTrue(is_whole(answer))
        self.assertEqual(handed, words)

    def test_num_is_cut(self):
        for width in range(1, 65):
            for n in (0, 1, -1, 2 ** width - 1, 2 ** width, -2 ** width, 2 ** width + 1, FORTY, -FORTY):
                self.check(num(n), width, {}, n % 2 ** width)
        self.assertEqual(len(str(FORTY)), 40)

    def test_var_is_its_word(self):
        self.check(var("a"), 8, {"a": 0}, 0)
        self.check(var("a"), 8, {"a": 255, "b": 3}, 255)
        self.check(var("b"), 8, {"a": 255, "b": 3}, 3)
        self.check(var("a"), 1, {"a": 1}, 1)
        self.check(var("a"), 64, {"a": 2 ** 64 - 1}, 2 ** 64 - 1)

    def test_plus(self):
        self.check(("plus", num(3), num(4)), 8, {}, 7)
        self.check(("plus", num(255), num(1)), 8, {}, 0)
        self.check(("plus", var("a"), var("b")), 8, {"a": 200, "b": 100}, 44)
        self.check(("plus", num(1), num(1)), 1, {}, 0)
        self.check(("plus", var("a"), var("a")), 64, {"a": 2 ** 64 - 1}, 2 ** 64 - 2)

    def test_minus(self):
        self.check(("minus", num(7), num(4)), 8, {}, 3)
        self.check(("minus", num(4), num(7)), 8, {}, 253)
        self.check(("minus", num(0), num(1)), 1, {}, 1)
        self.check(("minus", num(0), num(1)), 64, {}, 2 ** 64 - 1)
        self.check(("minus", var("a"), var("b")), 4, {"a": 2, "b": 15}, 3)

    def test_times(self):
        self.check(("times", num(3), num(4)), 8, {}, 12)
        self.check(("times", num(16), num(16)), 8, {}, 0)
        self.check(("times", num(-3), num(5)), 8, {}, 241)
        self.check(("times", var("a"), var("a")), 64, {"a": 2 ** 64 - 1}, 1)
        self.check(("times", num(1), num(1)), 1, {}, 1)

    def test_less(self):
        self.check(("less", num(3), num(4)), 8, {}, 1)
        self.check(("less", num(4), num(4)), 8, {}, 0)
        self.check(("less", num(5), num(4)), 8, {}, 0)
        self.check(("less", num(0), num(1)), 1, {}, 1)
        self.check(("less", var("a"), var("b")), 64, {"a": 2 ** 64 - 2, "b": 2 ** 64 - 1}, 1)

    def test_same(self):
        self.check(("same", num(4), num(4)), 8, {}, 1)
        self.check(("same", num(4), num(5)), 8, {}, 0)
        self.check(("same", num(5), num(4)), 8, {}, 0)
        self.check(("same", var("a"), var("b")), 1, {"a": 0, "b": 0}, 1)
        self.check(("same", var("a"), num(-1)), 64, {"a": 2 ** 64 - 1}, 1)

    def test_pick(self):
        self.check(("pick", num(1), num(20), num(30)), 8, {}, 20)
        self.check(("pick", num(2), num(20), num(30)), 8, {}, 20)
        self.check(("pick", num(255), num(20), num(30)), 8, {}, 20)
        self.check(("pick", num(0), num(20), num(30)), 8, {}, 30)
        self.check(("pick", var("c"), var("a"), var("b")), 8, {"a": 1, "b": 2, "c": 3}, 1)
        self.check(("pick", var("c"), var("a"), var("b")), 8, {"a": 1, "b": 2, "c": 0}, 2)
        self.check(("pick", num(1), num(300), num(1)), 8, {}, 44)
        self.check(("pick", num(0), num(1), num(300)), 8, {}, 44)

    def test_each_part_is_cut_ahead_of_what_reads_it(self):
        self.check(("less", num(256), num(1)), 8, {}, 1)
        self.check(("less", num(-1), num(0)), 8, {}, 0)
        self.check(("same", num(256), num(0)), 8, {}, 1)
        self.check(("same", num(-1), num(255)), 8, {}, 1)
        self.check(("less", ("plus", num(255), num(1)), num(1)), 8, {}, 1)
        self.check(("less", ("minus", num(0), num(1)), num(0)), 8, {}, 0)
        self.check(("less", num(1), ("times", num(16), num(16))), 8, {}, 0)
        self.check(("same", ("plus", num(200), num(56)), num(0)), 8, {}, 1)
        self.check(("same", ("minus", num(1), num(2)), num(255)), 8, {}, 1)
        self.check(("same", ("times", num(20), num(20)), num(144)), 8, {}, 1)
        for turned in (num(256), ("plus", num(255), num(1)), ("minus", num(256), num(512)), ("times", num(2), num(128))):
            self.check(("pick", turned, num(1), num(2)), 8, {}, 2)
            self.check(("pick", turned, num(1), num(2)), 16, {}, 1)

    def test_width_1(self):
        for a in (0, 1):
            for b in (0, 1):
                words = {"a": a, "b": b}
                self.check(("plus", var("a"), var("b")), 1, words, a ^ b)
                self.check(("minus", var("a"), var("b")), 1, words, a ^ b)
                self.check(("times", var("a"), var("b")), 1, words, a & b)
                self.check(("less", var("a"), var("b")), 1, words, (1 - a) & b)
                self.check(("same", var("a"), var("b")), 1, words, 1 - (a ^ b))
                self.check(("pick", var("a"), var("b"), num(1)), 1, words, b if a else 1)

    def test_all_words_of_three_bits_in_each_form_of_two(self):
        for form in TWOS:
            for a in range(8):
                for b in range(8):
                    term = (form, var("a"), var("b"))
                    told = {
                        "plus": (a + b) % 8, "minus": (a - b) % 8, "times": a * b % 8,
                        "less": 1 if a < b else 0, "same": 1 if a == b else 0,
                    }[form]
                    self.check(term, 3, {"a": a, "b": b}, told)

    def test_many_terms_at_many_widths(self):
        for start in range(1, 300):
            term = grown(mixed(60, 9, start), 6)
            for width in (1, 2, 7, 8, 33, 64):
                a, b, c = mixed(3, width, start + width)
                words = {"a": a, "b": b, "c": c}
                self.check(term, width, words, worth_by_hand(term, width, words))

    def test_worth_is_a_word_of_the_width(self):
        for start in range(1, 100):
            term = ("times", grown(mixed(40, 9, start), 5), num(FORTY))
            for width in (1, 5, 64):
                answer = worth(term, width, {"a": 1, "b": 2 ** width - 1, "c": 0})
                self.assertTrue(0 <= answer < 2 ** width)

    def test_40_deep(self):
        for form in TWOS + ("pick",):
            for width in (1, 8, 64):
                words = {"a": 2 ** width - 1, "b": 1}
                term = deep(40, form)
                self.check(term, width, words, worth_by_hand(term, width, words))
        # 39 nums, from 0 to 38, are added to a.
        self.check(deep(40), 64, {"a": 5}, 5 + 741)

    def test_200_parts(self):
        for width in (1, 8, 64):
            for c in (0, 1):
                words = {"a": 1, "c": c, "d": 0}
                term = two_hundred_parts()
                self.check(term, width, words, worth_by_hand(term, width, words))

    def test_words_that_are_not_read_change_nothing(self):
        term = ("pick", var("c"), ("plus", var("a"), num(1)), num(9))
        words = {"a": 4, "c": 1}
        self.check(term, 8, words, 5)
        for more in ({"b": 0}, {"b": 255, "num": 3, "var": 1, "plus": 7, "z": 4}):
            self.check(term, 8, {**words, **more}, 5)
            self.check(term, 8, {**more, **words}, 5)
        self.check(num(3), 8, {"a": 1, "b": 2}, 3)

    def test_nothing_is_kept_from_one_asking_to_the_next(self):
        term = ("plus", var("a"), num(1))
        words = {"a": 4}
        self.assertEqual(worth(term, 8, words), 5)
        words["a"] = 9
        self.assertEqual(worth(term, 8, words), 10)
        self.assertEqual(worth(term, 3, {"a": 7}), 0)
        self.assertEqual(worth(term, 4, {"a": 7}), 8)
