import copy
import unittest

from bellferry.steps import after, wish

from helper import grown, is_whole, mixed, num, var, worth_by_hand

STEPS = [
    ("take", "f", "a"),
    ("give", "g", ("plus", var("a"), var("b"))),
    ("put", "b", ("minus", var("a"), num(1))),
    ("jump", ("less", var("a"), var("b")), 0),
]


class WishTest(unittest.TestCase):
    def check(self, width, steps, number, words, told):
        for handed in (list(steps), tuple(steps)):
            kept = copy.deepcopy((handed, words))
            answer = wish(width, handed, number, words)
            self.assertEqual(answer, told, (steps, number))
            self.assertIs(type(answer), type(told))
            self.assertEqual((handed, words), kept)

    def test_each_of_the_four_forms(self):
        words = {"a": 3, "b": 4}
        self.check(8, STEPS, 0, words, ("take", "f"))
        self.check(8, STEPS, 1, words, ("give", "g", 7))
        self.check(8, STEPS, 2, words, ("own",))
        self.check(8, STEPS, 3, words, ("own",))

    def test_none_at_the_count_of_the_steps(self):
        self.check(8, STEPS, 4, {"a": 3, "b": 4}, None)
        self.check(8, [], 0, {}, None)
        for count in range(13):
            self.check(8, [("put", "a", num(1))] * count, count, {"a": 0}, None)
            if count > 0:
                self.check(8, [("put", "a", num(1))] * count, count - 1, {"a": 0}, ("own",))

    def test_a_jump_is_own_whether_it_leads_away_or_not(self):
        for n in (0, 1):
            for at in (0, 1, 2):
                self.check(8, [("jump", num(n), at), ("take", "f", "a")], 0, {"a": 0}, ("own",))

    def test_the_word_to_be_given_is_the_terms_worth(self):
        self.check(8, [("give", "f", num(300))], 0, {}, ("give", "f", 44))
        self.check(8, [("give", "f", num(-1))], 0, {}, ("give", "f", 255))
        self.check(1, [("give", "f", num(2))], 0, {}, ("give", "f", 0))
        self.check(64, [("give", "f", num(-1))], 0, {}, ("give", "f", 2 ** 64 - 1))
        self.check(8, [("give", "f", ("same", num(1), num(1)))], 0, {}, ("give", "f", 1))
        self.check(8, [("give", "f", ("plus", var("a"), num(250)))], 0, {"a": 10}, ("give", "f", 4))
        for start in range(1, 60):
            term = grown(mixed(40, 9, start), 5)
            for width in (1, 8, 64):
                words = dict(zip("abc", mixed(3, width, start)))
                worth = worth_by_hand(term, width, words)
                self.check(width, [("take", "f", "a"), ("give", "f", term)], 1, words, ("give", "f", worth))
                self.assertTrue(is_whole(wish(width, [("give", "f", term)], 0, words)[2]))

    def test_names_that_are_called_as_forms(self):
        steps = [("take", "give", "put"), ("give", "take", var("jump")), ("put", "take", num(1))]
        words = {"put": 1, "jump": 9, "take": 3}
        self.check(8, steps, 0, words, ("take", "give"))
        self.check(8, steps, 1, words, ("give", "take", 9))
        self.check(8, steps, 2, words, ("own",))


class AfterTest(unittest.TestCase):
    def check(self, width, steps, number, words, word, told):
        for handed in (list(steps), tuple(steps)):
            kept = copy.deepcopy((handed, words))
            answer = after(width, handed, number, words, word)
            self.assertIs(type(answer), tuple)
            self.assertEqual(answer, told, (steps, number, words))
            self.assertTrue(is_whole(answer[0]))
            self.assertIs(type(answer[1]), dict)
            self.assertIsNot(answer[1], words)
            self.assertEqual((handed, words), kept)

    def test_take_puts_the_word_handed_to_it(self):
        self.check(8, STEPS, 0, {"a": 3, "b": 4}, 200, (1, {"a": 200, "b": 4}))
        self.check(8, STEPS, 0, {"a": 3, "b": 4}, 0, (1, {"a": 0, "b": 4}))
        self.check(8, [("take", "b", "a")], 0, {"a": 3, "b": 4}, 5, (1, {"a": 5, "b": 4}))
        self.check(64, [("take", "f", "a")], 0, {"a": 3}, 2 ** 64 - 1, (1, {"a": 2 ** 64 - 1}))

    def test_give_changes_no_word(self):
        self.check(8, STEPS, 1, {"a": 3, "b": 4}, None, (2, {"a": 3, "b": 4}))
        self.check(8, [("give", "a", num(9))], 0, {"a": 3}, None, (1, {"a": 3}))

    def test_put_puts_the_worth_of_the_words_as_they_were(self):
        self.check(8, STEPS, 2, {"a": 3, "b": 4}, None, (3, {"a": 3, "b": 2}))
        self.check(8, STEPS, 2, {"a": 0, "b": 4}, None, (3, {"a": 0, "b": 255}))
        self.check(8, [("put", "a", ("plus", var("a"), var("a")))], 0, {"a": 130}, None, (1, {"a": 4}))
        self.check(1, [("put", "a", num(3))], 0, {"a": 0}, None, (1, {"a": 1}))
        self.check(64, [("put", "a", num(-1))], 0, {"a": 0, "b": 1}, None, (1, {"a": 2 ** 64 - 1, "b": 1}))

    def test_a_jump_leads_to_its_number_where_its_worth_is_not_nought(self):
        words = {"a": 3, "b": 4}
        self.check(8, STEPS, 3, words, None, (0, words))
        for n in (1, 2, 255, -1):
            for at in range(5):
                for number in range(4):
                    steps = [("give", "f", num(0))] * 4
                    steps[number] = ("jump", num(n), at)
                    self.check(8, steps, number, words, None, (at, words))

    def test_else_a_jump_leads_to_the_next_number(self):
        self.check(8, STEPS, 3, {"a": 4, "b": 4}, None, (4, {"a": 4, "b": 4}))
        for n in (0, 256, -256):
            for at in range(5):
                for number in range(4):
                    steps = [("give", "f", num(0))] * 4
                    steps[number] = ("jump", num(n), at)
                    self.check(8, steps, number, {"a": 1}, None, (number + 1, {"a": 1}))

    def test_a_jump_to_the_count_of_the_steps_and_to_itself(self):
        self.check(8, [("jump", num(1), 1)], 0, {}, None, (1, {}))
        self.check(8, [("jump", num(1), 0)], 0, {}, None, (0, {}))
        self.check(8, [("jump", num(1), 12)] * 12, 5, {}, None, (12, {}))
        self.check(8, [("jump", num(1), 5)] * 12, 5, {}, None, (5, {}))

    def test_the_worth_of_a_jumps_term_is_cut(self):
        self.check(1, [("jump", num(2), 0)], 0, {}, None, (1, {}))
        self.check(2, [("jump", num(2), 0)], 0, {}, None, (0, {}))
        self.check(8, [("jump", ("plus", var("a"), num(1)), 0)], 0, {"a": 255}, None, (1, {"a": 255}))

    def test_only_a_variable_that_is_put_is_changed(self):
        for start in range(1, 60):
            row = mixed(60, 9, start)
            words = dict(zip("abcdef", mixed(6, 8, start)))
            put = "abcdef"[row.pop() % 6]
            word = row.pop() % 256
            self.check(8, [("take", "f", put)], 0, words, word, (1, dict(words, **{put: word})))
            term = grown(row, 5)
            worth = worth_by_hand(term, 8, words)
            self.check(8, [("put", put, term)], 0, words, None, (1, dict(words, **{put: worth})))
            self.check(8, [("give", put, term)], 0, words, None, (1, words))
            self.check(8, [("jump", term, 0)], 0, words, None, (0 if worth else 1, words))

    def test_the_dict_told_is_the_askers_own(self):
        words = {"a": 3, "b": 4}
        for number, word in ((0, 9), (1, None), (2, None), (3, None)):
            told = [after(8, STEPS, number, words, word)[1] for _ in range(2)]
            self.assertIsNot(told[0], told[1])
            kept = dict(told[1])
            told[0]["a"] = 77
            told[0].clear()
            self.assertEqual(told[1], kept)
            self.assertEqual(words, {"a": 3, "b": 4})
            words["b"] = 5
            self.assertEqual(told[1], kept)
            words["b"] = 4
            self.assertEqual(after(8, STEPS, number, words, word)[1], kept)
