import copy
import re
import unittest

from bellferry.errors import FerryError, NoFerry, NoName, NoStep, NoText, NoWidth, NoWord, TooMany, Twice, Unknown
from bellferry.texts import read, written
from bellferry.worlds import made

from helper import busy_world, deep, grown_world, mixed, num, var

TOP = 10 ** 20 - 1

WORLD = (12, [
    ("oak", [("a", 0), ("num", 4095)], [
        ("take", "back", "a"), ("give", "boat", ("plus", var("a"), num(1))), ("put", "num", num(-3)),
        ("jump", ("less", var("num"), num(TOP)), 4),
    ]),
    ("elm", [], []),
    ("var", [("var", 10)], [
        ("put", "var", ("pick", ("same", var("var"), num(0)), ("minus", num(-TOP), num(2)), ("times", num(3), var("var")))),
        ("take", "boat", "var"),
    ]),
], [("boat", "oak", "var", 0, 3), ("back", "elm", "oak", 3, 1)])

TEXT = """width 12
island oak
var a 0
var num 4095
take back a
give boat plus var a num 1
put num num -3
jump 4 less var num num 99999999999999999999
island elm
island var
var var 10
put var pick same var var num 0 minus num -99999999999999999999 num 2 times num 3 var var
take boat var
ferry boat oak var 0 3
ferry back elm oak 3 1"""

# Two islands to which a row may be added at the end of the first one, and a ferry between them.
HEAD = "width 8\nisland oak\nvar a 3\n"
TAIL = "\nisland elm\nferry boat oak elm 1 2"

NUMBER = r"(?:0|[1-9][0-9]{0,19})"
ROWS = {
    "w": rf"width {NUMBER}", "i": r"island [^ ]+", "v": rf"var [^ ]+ {NUMBER}",
    "s": rf"take [^ ]+ [^ ]+|(?:give|put) [^ ]+ .+|jump {NUMBER} .+", "f": rf"ferry [^ ]+ [^ ]+ [^ ]+ {NUMBER} {NUMBER}",
}


def term_by_hand(words):
    """The term that stands ahead, and the words behind it; a ValueError where there is none."""
    form, behind = words[0], words[1:]
    if form == "var" and behind[0] != "":
        return var(behind[0]), behind[1:]
    if form == "num" and re.fullmatch(rf"-?{NUMBER}", behind[0]) and behind[0] != "-0":
        return num(int(behind[0])), behind[1:]
    parts = []
    for _ in range({"pick": 3, "plus": 2, "minus": 2, "times": 2, "less": 2, "same": 2}[form]):
        part, behind = term_by_hand(behind)
        parts.append(part)
    return (form, *parts), behind


def whole_term(words):
    term, behind = term_by_hand(words)
    if behind:
        raise ValueError("a word too many")
    return term


def step_by_hand(words):
    if words[0] == "take":
        return tuple(words)
    if words[0] == "jump":
        return ("jump", whole_term(words[2:]), int(words[1]))
    return (words[0], words[1], whole_term(words[2:]))


def read_by_hand(text):
    """Width, islands and ferries by way of patterns, or None for what is not so written."""
    kinds = []
    for row in text.split("\n"):
        kinds.append([kind for kind, pattern in ROWS.items() if re.fullmatch(pattern, row)] or ["?"])
    if not re.fullmatch("w(iv*s*)*f*", "".join(kind[0] for kind in kinds)):
        return None
    rows = [row.split(" ") for row in text.split("\n")]
    islands, ferries = [], []
    for kind, row in zip(kinds, rows):
        try:
            if kind == ["i"]:
                islands.append((row[1], [], []))
            elif kind == ["v"]:
                islands[-1][1].append((row[1], int(row[2])))
            elif kind == ["s"]:
                islands[-1][2].append(step_by_hand(row))
            elif kind == ["f"]:
                ferries.append((row[1], row[2], row[3], int(row[4]), int(row[5])))
        except (ValueError, KeyError, IndexError):
            return None
    return (int(rows[0][1]), islands, ferries)


def written_by_hand(world):
    def told(term):
        return f"{term[0]} {term[1]}" if term[0] in ("num", "var") else " ".join([term[0]] + [told(part) for part in term[1:]])

    text = f"width {world[0]}"
    for name, pairs, steps in world[1]:
        text += f"\nisland {name}"
        for pair in pairs:
            text += f"\nvar {pair[0]} {pair[1]}"
        for form, first, second in steps:
            text += f"\njump {second} {told(first)}" if form == "jump" else f"\n{form} {first} "
            text += second if form == "take" else "" if form == "jump" else told(second)
    for ferry in world[2]:
        text += "\nferry {} {} {} {} {}".format(*ferry)
    return text


class TextTest(unittest.TestCase):
    def refused(self, error, text):
        with self.assertRaises(error, msg=text) as held:
            read(text)
        self.assertIs(type(held.exception), error, text)

    def check_read(self, text, parts):
        self.assertEqual(read(text), made(*parts), text)


class WrittenTest(TextTest):
    def test_the_least_world(self):
        self.assertEqual(written(made(1, [], [])), "width 1")
        self.assertEqual(written(made(64, [], [])), "width 64")

    def test_each_kind_of_row_and_each_form_of_term(self):
        world = made(*WORLD)
        self.assertEqual(written(world), TEXT)
        self.assertIs(type(written(world)), str)
        self.assertEqual(world, made(*WORLD))

    def test_each_form_of_term_by_itself(self):
        for term, text in (
            (num(0), "num 0"), (num(-1), "num -1"), (num(TOP), "num " + "9" * 20), (num(-TOP), "num -" + "9" * 20),
            (num(1000), "num 1000"), (var("a"), "var a"), (("plus", num(1), num(2)), "plus num 1 num 2"),
            (("minus", num(1), num(2)), "minus num 1 num 2"), (("times", num(1), num(2)), "times num 1 num 2"),
            (("less", num(1), num(2)), "less num 1 num 2"), (("same", num(1), num(2)), "same num 1 num 2"),
            (("pick", var("a"), num(1), num(2)), "pick var a num 1 num 2"),
            (("plus", ("less", num(1), num(2)), var("a")), "plus less num 1 num 2 var a"),
            (("plus", var("a"), ("less", num(1), num(2))), "plus var a less num 1 num 2"),
            (("pick", ("pick", num(1), num(2), num(3)), num(4), ("same", num(5), num(6))),
             "pick pick num 1 num 2 num 3 num 4 same num 5 num 6"),
        ):
            for step, row in (
                (("put", "a", term), "put a "), (("give", "boat", term), "give boat "), (("jump", term, 1), "jump 1 "),
            ):
                parts = (8, [("oak", [("a", 3)], [step]), ("elm", [], [])], [("boat", "oak", "elm", 1, 2)])
                self.assertEqual(written(made(*parts)), HEAD + row + text + TAIL)
                self.check_read(HEAD + row + text + TAIL, parts)

    def test_nums_are_written_as_they_are_and_not_cut(self):
        world = made(1, [("oak", [("a", 1)], [("put", "a", num(-77)), ("put", "a", num(300))])], [])
        self.assertEqual(written(world), "width 1\nisland oak\nvar a 1\nput a num -77\nput a num 300")

    def test_the_greatest_word(self):
        world = made(64, [("oak", [("a", 2 ** 64 - 1)], [])], [])
        self.assertEqual(written(world), "width 64\nisland oak\nvar a 18446744073709551615")
        self.assertEqual(read(written(world)), world)

    def test_names_called_as_the_words_of_rows_and_terms(self):
        names = ("island", "var", "take", "num", "jump", "ferry")
        steps = [("put", name, ("plus", var(name), ("pick", var("num"), var("var"), num(1)))) for name in names]
        steps += [("give", "width", var("ferry")), ("jump", var("jump"), 0)]
        world = made(8, [
            ("island", [(name, 1) for name in names], steps), ("plus", [("put", 3)], [("take", "width", "put")]),
        ], [("width", "island", "plus", 1, 1)])
        self.assertEqual(written(world), written_by_hand(world))
        self.assertEqual(read(written(world)), world)

    def test_many_worlds_written_and_read_again(self):
        for grow in (grown_world, busy_world):
            for start in range(1, 200):
                world = made(*grow(start))
                kept = copy.deepcopy(world)
                text = written(world)
                self.assertEqual(text, written_by_hand(world))
                self.assertEqual(read(text), world)
                self.assertEqual(world, kept)
                self.assertEqual(written(read(text)), text)


class ReadTest(TextTest):
    def test_what_is_read_is_a_world(self):
        self.assertEqual(read("width 1"), (1, (), ()))
        self.assertEqual(read(TEXT), made(*WORLD))

    def test_texts_without_a_word(self):
        for text in ("", " ", "\n", "\n\n", " \n ", "  "):
            self.refused(NoText, text)

    def test_a_row_without_a_word(self):
        rows = TEXT.split("\n")
        for place in range(len(rows) + 1):
            self.refused(NoText, "\n".join(rows[:place] + [""] + rows[place:]))
            self.refused(NoText, "\n".join(rows[:place] + [" "] + rows[place:]))

    def test_blanks_at_begin_and_end_and_two_of_them(self):
        self.refused(NoText, TEXT + " ")
        self.refused(NoText, " " + TEXT)
        for place, sign in enumerate(TEXT):
            if sign in " \n":
                self.refused(NoText, TEXT[:place] + " " + TEXT[place:])
                self.refused(NoText, TEXT[:place + 1] + " " + TEXT[place + 1:])

    def test_a_word_too_few(self):
        rows = TEXT.split("\n")
        for place, row in enumerate(rows):
            words = row.split(" ")
            for count in range(1, len(words)):
                self.refused(NoText, "\n".join(rows[:place] + [" ".join(words[:count])] + rows[place + 1:]))

    def test_a_word_too_many(self):
        rows = TEXT.split("\n")
        for place, row in enumerate(rows):
            for more in ("a", "0", "num 1", "var a", "plus", "width", "ferry boat oak var 0 3"):
                self.refused(NoText, "\n".join(rows[:place] + [row + " " + more] + rows[place + 1:]))

    def test_another_word(self):
        for row in (
            "sail", "sail boat a", "Width 8", "tak boat a", "takes boat a", "TAKE boat a", "gives boat num 1", "a 3",
            "0", "-", "#", "put a", "put a plus", "put a a", "put a 1", "put a nums 1", "put a Num 1", "put a var",
            "put a num", "put a num a", "put a plus num 1", "put a plus num 1 num", "put a plus num 1 2",
            "put a pick num 1 num 2", "put a plus num 1 num 2 num 3", "put a pick num 1 num 2 num 3 num 4",
            "put a num 1 num 2", "put a var a var a", "put a num 1 plus num 2", "put a plus plus num 1 num 2",
            "put a over num 1 num 2", "put a put a num 1", "give boat", "give boat boat", "jump num 1 0", "jump 0",
            "jump num 1", "jump 0 0", "jump a num 1", "take boat", "take", "give", "put", "jump", "take boat a a",
            "give boat take boat a", "take boat num 1",
        ):
            self.refused(NoText, HEAD + row + TAIL)

    def test_rows_at_another_place(self):
        for text in (
            "island oak", "island oak\nwidth 8", "var a 3\nwidth 8", "width 8\nwidth 8", "width 8\nvar a 3",
            "width 8\ntake boat a", "width 8\nput a num 1", "width 8\njump 0 num 1", "width 8\ngive boat num 1",
            HEAD + "put a num 1\nvar b 4", HEAD + "jump 0 num 1\nvar b 4" + TAIL, HEAD + "width 8" + TAIL,
            HEAD[:-1] + TAIL + "\nisland ash", HEAD[:-1] + TAIL + "\nvar b 4", HEAD[:-1] + TAIL + "\nput a num 1",
            HEAD[:-1] + TAIL + "\ntake boat a", HEAD[:-1] + TAIL + "\nwidth 8", HEAD[:-1] + TAIL + "\njump 0 num 1",
            HEAD + "ferry boat oak elm 1 2\nisland elm", "ferry boat oak elm 1 2\n" + HEAD + "island elm",
            "width 8\nferry boat oak elm 1 2\nisland oak\nisland elm", "width 8\nferry boat oak elm 1 2\nvar a 3",
            "width 8\nferry boat oak elm 1 2\ntake boat a",
        ):
            self.refused(NoText, text)

    def test_numbers_that_are_not_so_written(self):
        for word in (
            "00", "01", "007", "-1", "-0", "+1", "1-", "--1", "1.0", "1_0", "0x1", "a", "1a", "a1", "-", "1e3",
            "1" * 21, "0" * 20, "0" * 21, "9" * 21, "1" + "0" * 20, "1" * 200, "1,0", "(1)", "#1",
        ):
            self.refused(NoText, f"width {word}")
            self.refused(NoText, f"width 8\nisland oak\nvar a {word}")
            self.refused(NoText, HEAD + f"jump {word} num 1" + TAIL)
            self.refused(NoText, HEAD[:-1] + f"\nisland elm\nferry boat oak elm {word} 1")
            self.refused(NoText, HEAD[:-1] + f"\nisland elm\nferry boat oak elm 1 {word}")
            if word != "-1":
                self.refused(NoText, HEAD + f"put a num {word}" + TAIL)
                self.refused(NoText, HEAD + f"put a plus num {word} var a" + TAIL)

    def test_nums_below_nought(self):
        for word in ("-1", "-9", "-10", "-" + "9" * 20, "-1" + "0" * 19):
            self.check_read(f"width 8\nisland oak\nvar a 3\nput a num {word}", (
                8, [("oak", [("a", 3)], [("put", "a", num(int(word)))])], [],
            ))
        for word in ("-0", "-00", "-01", "--1", "-", "-a", "-" + "1" * 21, "- 1", "1-", "-1-", "+1"):
            self.refused(NoText, f"width 8\nisland oak\nvar a 3\nput a num {word}")

    def test_twenty_figures_are_a_number_and_refused_as_such(self):
        big = "9" * 20
        self.refused(NoWidth, f"width {big}")
        self.refused(NoWord, f"width 64\nisland oak\nvar a {big}")
        self.refused(NoStep, HEAD + f"jump {big} num 1" + TAIL)
        self.refused(NoFerry, HEAD[:-1] + f"\nisland elm\nferry boat oak elm {big} 1")
        self.refused(NoFerry, HEAD[:-1] + f"\nisland elm\nferry boat oak elm 1 {big}")

    def test_a_name_may_be_any_word_and_is_refused_as_a_name(self):
        for word in ("A", "Oak", "o1", "1", "0", "-", "a_b", "oak,", "~", "!", "abcdefghi", "()", "'", '"', "\\", "#"):
            self.refused(NoName, f"width 8\nisland {word}")
            self.refused(NoName, f"width 8\nisland oak\nvar {word} 0")
            self.refused(NoName, HEAD[:-1] + f"\nisland elm\nferry {word} oak elm 1 2")
            self.refused(Unknown, HEAD[:-1] + f"\nisland elm\nferry boat {word} elm 1 2")
            self.refused(Unknown, HEAD[:-1] + f"\nisland elm\nferry boat oak {word} 1 2")
            self.refused(Unknown, HEAD + f"take {word} a" + TAIL)
            self.refused(Unknown, HEAD + f"take boat {word}" + TAIL)
            self.refused(Unknown, HEAD + f"give {word} num 1" + TAIL)
            self.refused(Unknown, HEAD + f"put {word} num 1" + TAIL)
            self.refused(Unknown, HEAD + f"put a var {word}" + TAIL)

    def test_what_a_world_is_refused_for(self):
        isles = "\nisland oak\nisland elm"
        for error, text in (
            (NoWidth, "width 0"), (NoWidth, "width 65"), (TooMany, "width 8" + "\nisland oak" * 6),
            (TooMany, "width 8" + isles + "\nferry boat oak elm 1 2" * 7), (Twice, "width 8\nisland oak\nisland oak"),
            (Twice, "width 8\nisland oak\nvar a 1\nvar a 2"), (NoWord, "width 8\nisland oak\nvar a 256"),
            (TooMany, "width 8\nisland oak" + "\nvar a 1" * 7), (TooMany, "width 8\nisland oak" + "\njump 0 num 1" * 13),
            (Twice, "width 8\nisland oak\nisland elm\nferry oak oak elm 1 2"),
            (NoStep, "width 8\nisland oak\njump 2 num 1"), (NoFerry, "width 8" + isles + "\nferry boat oak oak 1 2"),
            (NoFerry, "width 8" + isles + "\nferry boat oak elm 4 1"), (NoFerry, "width 8" + isles + "\nferry boat oak elm 1 0"),
            (NoFerry, "width 8" + isles + "\nferry boat oak elm 1 4"), (Unknown, "width 8\nferry boat oak elm 1 1"),
            (NoFerry, "width 8\nisland oak\nvar a 3\ntake boat a\nisland elm\nferry boat oak elm 1 1"),
            (NoFerry, "width 8\nisland oak\nisland elm\ngive boat num 1\nferry boat oak elm 1 1"),
            (TooMany, "width 8\nisland oak\nvar a 3\nput a " + "plus num 1 " * 8 + "num 1"),
            (TooMany, "width 8\nisland oak\nvar a 3\nput a plus" + (" plus" + " plus plus num 1 num 1 plus num 1 num 1" * 2) * 2),
        ):
            self.refused(error, text)

    def test_a_text_that_is_not_so_written_comes_ahead_of_what_a_world_is_refused_for(self):
        for text in (
            "width 0\nsail", "width 65\nisland oak ", "width 8" + "\nisland oak" * 6 + "\n",
            "width 8\nisland OAK\nvar a 01", "width 8\nisland oak\nvar a 256\nput a num", "width 0\nwidth 8",
            "width 8\nisland oak\ntake boat a\nvar a 3", "width 8\nisland oak\nput a num 1\nferry boat oak elm 1 -1",
            "width 8\nisland oak\nisland oak\nput a plus num 1",
        ):
            self.refused(NoText, text)

    def test_terms_up_to_forty_deep_are_read_as_such(self):
        for form in ("plus", "less", "pick"):
            for depth in (2, 8, 9, 20, 40):
                term = deep(depth, form)
                pairs = [("a", 1), ("b", 2)]
                text = written_by_hand((8, [("oak", pairs, [("put", "a", term)])], []))
                if depth <= 8:
                    self.check_read(text, (8, [("oak", pairs, [("put", "a", term)])], []))
                else:
                    self.refused(TooMany, text)

    def test_long_rows_of_forms_without_their_parts(self):
        for form in ("plus", "pick", "less num 1", "pick num 1", "plus plus num 1 num 2"):
            self.refused(NoText, "width 8\nisland oak\nput a" + (" " + form) * (19900 // (len(form) + 1)))
        self.refused(NoText, "width 8\nisland oak\nput a" + " num 1" * 3000)

    def test_long_texts(self):
        self.refused(TooMany, "width 8" + "\nisland oak" * 1500)
        self.refused(NoText, "width 8" + "\nisland oak" * 1500 + "\n")
        self.refused(NoText, "width " + "1" * 19000)
        self.refused(NoName, "width 8\nisland " + "a" * 19000)
        self.refused(NoText, "\n" * 20000)
        self.refused(NoText, " " * 20000)

    def test_what_is_read_is_new_each_time(self):
        self.assertEqual(read(TEXT), read(TEXT))
        self.assertEqual(written(read(TEXT)), TEXT)


class SpoiltTest(TextTest):
    """Texts of worlds with a word, a sign or a row changed, held against a reader made another way."""

    def check(self, text):
        parts = read_by_hand(text)
        if parts is None:
            self.refused(NoText, text)
            return NoText
        try:
            world = made(*parts)
        except FerryError as error:
            self.refused(type(error), text)
            return type(error)
        self.assertEqual(read(text), world)
        return None

    def test_the_texts_themselves(self):
        for start in range(1, 40):
            self.assertIsNone(self.check(written_by_hand(grown_world(start))))
        self.assertIsNone(self.check(TEXT))

    def test_each_sign_taken_out_doubled_or_changed(self):
        for place, sign in enumerate(TEXT):
            for other in ("", sign + sign, " ", "\n", "0", "1", "-", "a", "z", "A", "~"):
                self.check(TEXT[:place] + other + TEXT[place + 1:])

    def test_each_row_taken_out_doubled_or_moved(self):
        rows = TEXT.split("\n")
        for place, row in enumerate(rows):
            others = rows[:place] + rows[place + 1:]
            self.check("\n".join(others))
            for to in range(len(rows)):
                self.check("\n".join(others[:to] + [row] + others[to:]))
                self.check("\n".join(rows[:to] + [row] + rows[to:]))

    def test_words_changed_in_many_worlds(self):
        words = """width island var take give put jump ferry num plus minus times less same pick oak elm rf sf a b c
            0 1 2 3 7 12 13 64 65 255 256 -1 -0 01 99999999999999999999 111111111111111111111 Oak x1""".split()
        came = []
        for start in range(1, 80):
            text = written_by_hand((grown_world, busy_world)[start % 2](start))
            lots = mixed(150, 30, start)
            while len(lots) > 4:
                parts = re.split("([ \n])", text)
                place = lots.pop() % len(parts)
                alike = [word for word in words if word.isalpha() == parts[place].isalpha()]
                word = alike[lots.pop() % len(alike)]
                way = lots.pop() % 8
                if parts[place] in (" ", "\n"):
                    parts[place] = (" ", "\n", f" {word} ", f"\n{word} ")[way % 4]
                elif way < 3:
                    parts[place] = ("", f"{word} {parts[place]}", f"{parts[place]}\n{word}")[way]
                else:
                    parts[place] = word
                came.append(self.check("".join(parts)))
        for error in (None, NoText, NoName, Unknown, NoStep, NoWord, NoFerry, Twice):
            self.assertTrue(error in came, error)
