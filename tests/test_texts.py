"""Tests of panelwatch.texts: points 131 and 132."""

import itertools
import random
import unittest

from panelwatch.errors import (
    NoCauses, NoCommands, NoLetter, NoPoint, NoPoints, NoRelations, NoRow, NoRule, NoRules, NoText, NoWorks, NoWorth,
    Ring, TooMany, Twice,
)
from panelwatch.letters import is_letter
from panelwatch.texts import letter_of, letter_text, works_of, works_text
from panelwatch.works import Works
from tests.chances import other_works, sent
from tests.large import in_time, large_works
from tests.things import CAUSES, COMMANDS, POINTS, RELATIONS, RULES, PanelCase, others, sample, wrong

NO_WORKS = wrong(lambda thing: isinstance(thing, Works))
NO_TEXTS = wrong(lambda thing: type(thing) is str)
TEXT = """point lv north level
point v north switch
point a east level
point b east level
point c east level
point s east switch
point w dam switch
rule high lv above 40 5 3 1
rule low lv below 3 0 0 2
rule far a above 10 2 99 3
rule shut w below 1 0 1 3
cause high low 20
cause shut far 0
cause high far 999
cause low far 7
command open v 1 v below 1 lv above 3
command fill a 63
command drain b 0 a below 60 b above 0 c above 1 s above 0
relation same a b
relation sum a b c lv
relation gate lv v
relation sum c lv"""
ROWS = TEXT.split("\n")
# Words that may stand in the place of any other one: plain and other numbers, names and others.
WORDS = [
    "0", "1", "2", "3", "4", "63", "64", "99", "100", "999", "1000", "9999", "10000", "00", "01", "007", "-1", "+1",
    "1.0",
    "a", "lv", "zz", "abcdefgh", "abcdefghi", "level", "switch", "above", "below", "same", "sum", "gate", "good", "odd",
    "done", "refused", "Good", "lV", "a1", "point", "rule", "", " ", "True", "None", "open", "north", "term", "do",
]


def is_row(text):
    """Whether a row writes a tuple of some works, by the words of points 21 and 131, apart from the program."""
    words = text.split(" ")

    def number(at, low, high):
        word = words[at]
        return word.isdigit() and str(int(word)) == word and low <= int(word) <= high

    def names(*places):
        letters = "abcdefghijklmnopqrstuvwxyz"
        return all(1 <= len(words[at]) <= 8 and all(sign in letters for sign in words[at]) for at in places)

    def lock(at):
        return names(at) and words[at + 1] in ("above", "below") and number(at + 2, 0, 63)

    many = len(words)
    if words[0] == "point":
        return many == 4 and names(1, 2) and words[3] in ("level", "switch")
    if words[0] == "rule":
        return many == 8 and names(1) and lock(2) and number(5, 0, 63) and number(6, 0, 99) and number(7, 1, 3)
    if words[0] == "cause":
        return many == 4 and names(1, 2) and number(3, 0, 999)
    if words[0] == "command":
        locks = range(4, many, 3)
        good = many in (4, 7, 10, 13, 16) and names(1, 2) and number(3, 0, 63)
        return good and all(lock(at) for at in locks)
    if words[0] != "relation" or many < 4:
        return False
    if words[1] == "sum":
        return many <= 6 and names(*range(2, many))
    return many == 4 and words[1] in ("same", "gate") and names(2, 3)


class WorksTextTest(PanelCase):
    def test_written(self):
        self.is_just(works_text(sample()), TEXT)
        self.is_just(works_text(works=Works([("p", "q", "level")])), "point p q level")

    def test_as_the_document_shows(self):
        works = Works(
            [("v", "x", "switch"), ("lv", "x", "level"), ("a", "x", "level"), ("b", "x", "level"), ("c", "x", "level")],
            commands=[("open", "v", 1, (("v", "below", 1), ("lv", "above", 3)))], relations=[("sum", "a", ("b", "c"))],
        )
        self.is_just(works_text(works).split("\n")[-2:],
                     ["command open v 1 v below 1 lv above 3", "relation sum a b c"])

    def test_what_is_written_is_read_as_the_same(self):
        for works in [sample(), large_works(), Works(POINTS), *other_works()]:
            self.assertEqual(works_of(works_text(works)), works)
            self.assertEqual(works_of(text=works_text(works)), works)
            self.is_just(works_text(works_of(works_text(works))), works_text(works))

    def test_by_chance(self):
        chance = random.Random(131)
        for _ in range(200):
            names = chance.sample(["a", "sum", "point", "above", "level", "good", "zzzzzzzz", "rule"],
                                  k=chance.randint(3, 8))
            points = [(name, "x", "switch" if at == 0 else "level") for at, name in enumerate(names)]
            rules = [(name, chance.choice(names), "above", chance.randrange(64), chance.randrange(64),
                      chance.randrange(100),
                      chance.randint(1, 3)) for name in chance.sample(names, k=3)]
            causes = [(rules[0][0], rules[1][0], chance.randrange(1000)), (rules[1][0], rules[2][0], 0)]
            locks = [(chance.choice(names), "below", chance.randrange(64)) for _ in range(chance.randint(0, 4))]
            commands = [(name, names[0], 1, tuple(locks)) for name in names[:chance.randint(0, 3)]]
            relations = [("gate", names[1], names[0]), ("sum", names[0], tuple(names[1:chance.randint(2, 4)]))]
            works = Works(points, rules=rules, causes=causes[:chance.randint(0, 2)], commands=commands,
                          relations=relations)
            self.assertEqual(works_of(works_text(works)), works)

    def test_no_works(self):
        self.look_at_arguments(works_text, ("works", sample(), NO_WORKS, NoWorks))
        self.look_at_arguments(lambda **named: works_text(works_of(**named)), ("text", TEXT, NO_TEXTS, NoText))


class WorksOfTest(PanelCase):
    def test_rows_that_write_nothing(self):
        self.refused(NoRow, 0, works_of, "")
        self.refused(NoRow, len(ROWS), works_of, TEXT + "\n")
        self.refused(NoRow, 0, works_of, "\n" + TEXT)
        self.refused(NoRow, 0, works_of, "\n")
        for at, row in enumerate(ROWS):
            near = [
                row + " ", " " + row, row.replace(" ", "  ", 1), "", row.upper(), row.title(), row + "\t", row[1:],
                row[:-1] + "%",
                row.split(" ")[0], row + " 1", row + " a", row + " a above 1 b", " ".join(row.split(" ")[:-1]),
                "wait 5", "po",
            ]
            for other in near:
                if not is_row(other):
                    self.refused(NoRow, at, works_of, "\n".join([*ROWS[:at], other, *ROWS[at + 1:]]))
                    self.refused(NoRow, at, works_of, "\n".join([*ROWS[:at], other, "", TEXT]))

    def test_each_word_otherwise(self):
        """A row is refused just where it writes no tuple of works by itself."""
        many = [0, 0]
        for at, row in enumerate(ROWS):
            words = row.split(" ")
            for place in range(1, len(words)):
                for word in WORDS:
                    other = " ".join([*words[:place], word, *words[place + 1:]])
                    good = is_row(other)
                    many[good] += 1
                    rows = [*ROWS[:at], other, *ROWS[at + 1:]]
                    if not good:
                        self.refused(NoRow, at, works_of, "\n".join(rows))
                        continue
                    try:
                        self.is_just(works_text(works_of("\n".join(rows))), "\n".join(rows))
                    except (NoPoint, NoRule, NoWorth, Twice, TooMany, Ring):
                        pass
        self.assertGreater(min(many), 500)

    def test_out_of_order(self):
        first = {}
        for at, row in enumerate(ROWS):
            first.setdefault(row.split(" ")[0], at)
        for one, other in itertools.combinations(first, 2):
            rows = [ROWS[first[one]], ROWS[first[other]], ROWS[first[one]]]
            self.refused(NoRow, 2, works_of, "\n".join(rows))
            self.refused(NoRow, 1, works_of, "\n".join(rows[1:]))
        self.refused(NoRow, len(ROWS), works_of, TEXT + "\n" + ROWS[0])
        # Rows of one word stand in the order of their list.
        turned = [*ROWS[:7], *ROWS[7:11][::-1], *ROWS[11:]]
        self.is_just(works_of("\n".join(turned)).rules(), RULES[::-1])

    def test_none_of_some(self):
        self.assertEqual(works_of("\n".join(ROWS[:7])), Works(POINTS))
        self.assertEqual(works_of("\n".join(ROWS[:7] + ROWS[15:18])), Works(POINTS, commands=COMMANDS))
        self.assertEqual(works_of("\n".join(ROWS[:7] + ROWS[18:])), Works(POINTS, relations=RELATIONS))

    def test_then_as_works_of_such_lists(self):
        def refused(error, value, *rows):
            with self.assertRaises(error) as caught:
                works_of("\n".join(rows))
            self.is_just(caught.exception.many if error is TooMany else caught.exception.found, value)

        refused(NoPoints, [], *ROWS[18:])
        refused(NoPoints, [], ROWS[7])
        nine = [("p" + "abcdefghi"[at], "x", "level") for at in range(9)]
        refused(NoPoints, nine, *[f"point {name} x level" for name, _, _ in nine])
        refused(Twice, "lv", ROWS[0], ROWS[1], ROWS[0])
        refused(TooMany, 4, *[f"point {name} {name} level" for name in "abcd"])
        refused(NoRules, [RULES[0]] * 7, *ROWS[:7], *[ROWS[7]] * 7)
        refused(NoPoint, "lv", ROWS[1], ROWS[7])
        refused(NoCauses, [CAUSES[0]] * 9, *ROWS[:11], *[ROWS[11]] * 9)
        refused(NoRule, "low", *ROWS[:8], ROWS[11])
        refused(Ring, "high", *ROWS[:11], "cause high low 1", "cause low high 1")
        refused(NoCommands, [COMMANDS[1]] * 5, *ROWS[:7], *[ROWS[16]] * 5)
        refused(NoWorth, 2, *ROWS[:7], "command open v 2")
        refused(NoPoint, "a", *ROWS[:7], "command open v 1 a above 1")
        refused(NoRelations, [RELATIONS[0]] * 6, *ROWS[:7], *[ROWS[18]] * 6)
        refused(NoPoint, "a", *ROWS[:7], "relation gate b a")
        # A row that writes no tuple goes ahead of all that hangs on the rows together.
        self.refused(NoRow, 2, works_of, "point a x level\npoint a x level\nrule a")
        self.refused(NoRow, 1, works_of, "rule high zz above 1 0 0 1\npoint a x level")

    def test_the_largest_in_time(self):
        text = works_text(large_works())
        self.assertEqual(in_time(self, lambda: works_of(text)), large_works())
        for long in ("point a x level\n" * 1200, "a" * 20000, " " * 20000, "\n" * 20000, "9" * 20000, "rule " * 4000):
            with self.assertRaises(NoRow):
                in_time(self, lambda: works_of(long))
        with self.assertRaises(NoPoints):
            in_time(self, lambda: works_of("\n".join(["point a x level"] * 1200)))


LETTERS = [
    (("signs", "north", 2, 7, ((3, "lv", 40, "good"), (7, "v", 1, "odd"))), "signs north 2 7 3 lv 40 good 7 v 1 odd"),
    (("signs", "dam", 40, 9999, ()), "signs dam 40 9999"), (("do", (4, 1), "open"), "do 4 1 open"),
    (("back", (999, 999)), "back 999 999"), (("term", 0), "term 0"), (("terms", "east", 998, 30), "terms east 998 30"),
    (("answer", "east", (0, 12), "refused", 5, 30), "answer east 0 12 refused 5 30"),
    (("answer", "dam", (0, 1), "done", 0, 0), "answer dam 0 1 done 0 0"),
]


class LetterTextTest(PanelCase):
    def test_written_and_read(self):
        for letter, text in LETTERS:
            self.is_just(letter_text(sample(), letter), text)
            self.is_just(letter_text(letter=letter, works=sample()), text)
            self.is_just(letter_of(sample(), text), letter)
            self.is_just(letter_of(text=text, works=sample()), letter)

    def test_none_to_twelve_signs(self):
        chance = random.Random(132)
        for letter in sent(chance, sample()):
            self.is_just(letter_of(sample(), letter_text(sample(), letter)), letter)
        for many in range(13):
            rows = tuple((at, "lv", at, "good") for at in range(many))
            letter = ("signs", "north", 1, 50, rows)
            text = letter_text(sample(), letter)
            self.is_just(text, " ".join(["signs north 1 50"] + [f"{at} lv {at} good" for at in range(many)]))
            self.is_just(letter_of(sample(), text), letter)
        self.refused(NoText, text + " 12 lv 1 good", letter_of, sample(), text + " 12 lv 1 good")

    def test_letters_refused(self):
        near = []
        for letter, _ in LETTERS:
            near.extend([list(letter), letter[:-1], (*letter, 1)])
            for at in range(len(letter)):
                for thing in others():
                    near.append((*letter[:at], thing, *letter[at + 1:]))
        near = [thing for thing in [*others(), *near] if not is_letter(sample(), thing)]
        self.look_at_arguments(
            letter_text, ("works", sample(), NO_WORKS, NoWorks), ("letter", LETTERS[0][0], near, NoLetter),
        )

    def test_texts_refused(self):
        near = ["", " ", "\n", "signs", "take_over 1", "wait 5"]
        for _, text in LETTERS:
            near.extend([
                text + " ", " " + text, text.replace(" ", "  ", 1), text + "\n", "\n" + text, text.upper(), text[1:],
                text.replace(" ", "\n", 1), text + " 1", text + " good", text.rsplit(" ", 1)[0] + " 01",
                text.replace(" ", ""),
            ])
        near = [text for text in near if text not in [row[1] for row in LETTERS]]
        self.look_at_arguments(
            letter_of, ("works", sample(), NO_WORKS, NoWorks), ("text", LETTERS[0][1], [*others(), *near], NoText),
        )

    def test_each_word_otherwise(self):
        """What is read is what is written so, and nothing else is read."""
        many = [0, 0]
        for _, text in LETTERS:
            words = text.split(" ")
            for place in range(len(words)):
                for word in WORDS:
                    other = " ".join([*words[:place], word, *words[place + 1:]])
                    try:
                        letter = letter_of(sample(), other)
                    except NoText as error:
                        self.assertIs(error.found, other)
                        many[0] += 1
                    else:
                        many[1] += 1
                        self.assertTrue(is_letter(sample(), letter))
                        self.is_just(letter_text(sample(), letter), other)
                for word in ("a b", "1 2"):
                    self.refused(NoText, text + " " + word, letter_of, sample(), text + " " + word)
        self.assertGreater(min(many), 100)

    def test_of_these_works_alone(self):
        works = Works([("p", "far", "level")])
        for letter, text in LETTERS:
            if letter[0] in ("back", "term"):
                self.is_just(letter_of(works, text), letter)
            else:
                self.refused(NoText, text, letter_of, works, text)
                self.refused(NoLetter, letter, letter_text, works, letter)

    def test_the_largest_in_time(self):
        for text in ("signs north 1 9" + " 3 lv 4 good" * 1500, "do " * 6000, "7" * 20000,
                     "answer north 0 1 done 0 " + "1" * 9000):
            self.refused(NoText, text, lambda one: in_time(self, lambda: letter_of(sample(), one)), text)


if __name__ == "__main__":
    unittest.main()
