"""Points 1, 2 and 33: the desk, and at it what the document promises over the whole program."""

import random
import re
import unittest

from samples import (Beside, Case, GREAT, NUMBER_TEXT, NUMBERS, all_windows, deep_list, firsts_by_looking, great_rows,
                     long_rows, odd_things, random_row, random_step, row_by_looking, short_rows, some_windows,
                     unlike_by_looking)
from unlikerow.desk import Desk
from unlikerow.errors import NoCommand, NoPlace, NoRow, NoWindow, RowError
from unlikerow.papers import are_firsts

COUNT = "(0|[1-9][0-9]{0,5})"
COMMANDS = re.compile("|".join([
    f"(unlike|firsts) {COUNT} {COUNT}", f"(change|put) {COUNT} {NUMBER_TEXT}", f"(take|most|least|count) {COUNT}",
    "part [1-9][0-9]{0,5}", "undo", "show"]))


def text_of(numbers):
    return " ".join(str(number) for number in numbers) or "-"


def part_by_trying(row, many):
    """From the end on: of all first windows the one that leaves the fewest, the longest of several."""
    best = {len(row): []}
    for first in reversed(range(len(row))):
        partings = [[behind] + best[behind] for behind in range(first + 1, len(row) + 1)
                    if unlike_by_looking(row, first, behind) <= many]
        best[first] = min(partings, key=lambda places: (len(places), [-place for place in places]))
    return best[0]


class DeskBeside:
    """What the desk is to answer, by a list kept beside and by looking at all windows."""

    def __init__(self):
        self.beside = Beside([])

    def say(self, words):
        """The text, or the refusal."""
        if not isinstance(words, str):
            return NoCommand
        if words[:4] == "row ":
            row = row_by_looking(words[4:])
            if row is None:
                return NoRow
            self.beside = Beside(row)
            return "ok"
        if not COMMANDS.fullmatch(words):
            return NoCommand
        name, *numbers = [int(word) if place else word for place, word in enumerate(words.split(" "))]
        if name in ("change", "put", "take", "undo"):
            return self.change(name, *numbers)
        return self.ask(self.beside.now, name, *numbers)

    def change(self, name, place=None, number=None):
        if name == "undo":
            return "ok" if self.beside.step("undo", None, None) else "none"
        if place > len(self.beside.now) - (name != "put"):
            return NoPlace
        told = self.beside.step(name, place, number)
        return str(told) if name == "take" else "ok"

    def ask(self, row, name, *numbers):
        if name == "show":
            return text_of(row)
        if name in ("unlike", "firsts"):
            first, behind = numbers
            if not first <= behind <= len(row):
                return NoWindow
            firsts = firsts_by_looking(row, first, behind)
            return str(len(firsts)) if name == "unlike" else text_of(firsts)
        if name == "count":
            return str(sum(unlike_by_looking(row, *window) == numbers[0] for window in all_windows(row)
                           if window[0] < window[1]))
        if name == "part":
            return text_of(part_by_trying(row, numbers[0]))
        if numbers[0] > len(row):
            return NoWindow
        unlike = [unlike_by_looking(row, first, first + numbers[0]) for first in range(len(row) - numbers[0] + 1)]
        number = max(unlike) if name == "most" else min(unlike)
        return f"{number} {unlike.index(number)}"


class DeskCase(Case):
    def assert_said(self, desk, words, right):
        if isinstance(right, str):
            told = desk.say(words)
            self.assertEqual(told, right, words)
            self.assertIs(type(told), str)
        else:
            self.assert_refused(right, desk.say, words)

    def assert_talk(self, talk):
        desk = Desk()
        for words, right in talk:
            with self.subTest(words=words):
                self.assert_said(desk, words, right)

    def assert_refused_and_unchanged(self, refusal, things, row="7 -2 7 9"):
        """A desk with two changes done: none of these changes what it shows or how often it can undo."""
        desk = Desk()
        desk.say(f"row {row}")
        ahead = desk.say("show")
        desk.say("put 0 4")
        between = desk.say("show")
        desk.say("change 0 5")
        now = desk.say("show")
        for thing in things:
            self.assert_refused(refusal, desk.say, thing)
            self.assertEqual(desk.say("show"), now)
        for words, right in (("undo", "ok"), ("show", between), ("undo", "ok"), ("show", ahead), ("undo", "none")):
            self.assert_said(desk, words, right)


class Talks(DeskCase):
    def test_written_out(self):
        self.assert_talk([
            ("show", "-"), ("undo", "none"), ("unlike 0 0", "0"), ("firsts 0 0", "-"), ("part 1", "-"),
            ("count 1", "0"), ("most 0", "0 0"), ("least 0", "0 0"), ("most 1", NoWindow), ("take 0", NoPlace),
            ("change 0 1", NoPlace), ("put 1 1", NoPlace), ("put 0 -1", "ok"), ("show", "-1"), ("undo", "ok"),
            ("show", "-"), ("undo", "none"),
            ("row 3 -1 3 3 5 -1", "ok"), ("show", "3 -1 3 3 5 -1"), ("unlike 0 6", "3"), ("unlike 2 4", "1"),
            ("firsts 0 6", "0 1 4"), ("firsts 2 6", "2 4 5"), ("firsts 3 3", "-"), ("most 3", "3 3"),
            ("least 2", "1 2"), ("count 0", "0"), ("count 1", "7"), ("count 2", "8"), ("count 3", "6"),
            ("count 4", "0"), ("part 1", "1 2 4 5 6"), ("part 2", "4 6"), ("part 3", "6"), ("part 999999", "6"),
            ("count 999999", "0"),
            ("change 1 3", "ok"), ("put 6 8", "ok"), ("take 4", "5"), ("show", "3 3 3 3 -1 8"), ("undo", "ok"),
            ("show", "3 3 3 3 5 -1 8"), ("undo", "ok"), ("undo", "ok"), ("show", "3 -1 3 3 5 -1"), ("undo", "none"),
            ("take 1", "-1"), ("row -", "ok"), ("show", "-"), ("undo", "none"),
        ])

    def test_a_new_row_has_nothing_to_undo(self):
        self.assert_talk([("row 1 2", "ok"), ("put 0 5", "ok"), ("row 1 2", "ok"), ("undo", "none"), ("show", "1 2"),
                          ("take 0", "1"), ("row 7", "ok"), ("show", "7"), ("undo", "none"), ("show", "7")])

    def test_a_change_by_which_the_number_stays(self):
        self.assert_talk([("row 4 6", "ok"), ("change 0 5", "ok"), ("change 1 6", "ok"), ("undo", "ok"),
                          ("show", "5 6"), ("undo", "ok"), ("show", "4 6"), ("undo", "none")])

    def test_numbers_of_thirty_figures(self):
        far = "9" * 30
        self.assert_talk([(f"row {far} -{far} 0", "ok"), ("show", f"{far} -{far} 0"), ("unlike 0 3", "3"),
                          ("take 1", f"-{far}"), (f"put 2 {far}", "ok"), ("unlike 0 3", "2"), ("firsts 1 3", "1 2"),
                          (f"change 0 -{far}", "ok"), ("show", f"-{far} 0 {far}"), ("take 0", f"-{far}")])

    def test_two_desks_stand_apart(self):
        one, other = Desk(), Desk()
        self.assertEqual((one.say("row 1 2"), other.say("show"), one.say("put 2 3")), ("ok", "-", "ok"))
        self.assertEqual((other.say("undo"), other.say("row 9"), one.say("show")), ("none", "ok", "1 2 3"))
        self.assertEqual((other.say("take 0"), one.say("undo"), one.say("undo")), ("9", "ok", "none"))
        self.assertEqual((one.say("show"), other.say("show"), other.say("undo"), other.say("show")),
                         ("1 2", "-", "ok", "9"))

    def test_every_question_of_short_rows(self):
        for row in short_rows():
            desk, beside = Desk(), DeskBeside()
            words = [f"row {text_of(row)}", "show", "undo"]
            places = range(len(row) + 2)
            windows = [(first, behind) for first in places for behind in places]
            words += [f"{name} {first} {behind}" for name in ("unlike", "firsts") for first, behind in windows]
            words += [f"{name} {number}" for name in ("most", "least", "count", "part", "take") for number in places]
            words += [f"{name} {place} 1" for name in ("change", "put") for place in reversed(places)]
            for said in words + ["show"] + ["undo", "show"] * 12:
                self.assert_said(desk, said, beside.say(said))

    def test_random_talks(self):
        for seed in range(40):
            source = random.Random(seed)
            desk, beside = Desk(), DeskBeside()
            row = random_row(seed, seed % 14, NUMBERS[:3 + seed % 7])
            if seed % 3:
                self.assert_said(desk, f"row {text_of(row)}", beside.say(f"row {text_of(row)}"))
            for time in range(60):
                do, place, number = random_step(source, len(beside.beside.now), 15)
                words = {"undo": "undo", "take": f"take {place}"}.get(do, f"{do} {place} {number}")
                self.assert_said(desk, words, beside.say(words))
                self.assert_said(desk, "show", beside.say("show"))
                length = len(beside.beside.now)
                for words in (f"unlike {source.randint(0, length)} {source.randint(0, length + 1)}",
                              f"firsts {source.randint(0, length)} {length}", f"most {source.randint(0, length + 1)}",
                              f"least {source.randint(0, length + 1)}", f"count {source.randint(0, 6)}",
                              f"part {source.randint(0, 5)}", f"take {length + source.randint(0, 1)}"):
                    self.assert_said(desk, words, beside.say(words))

    def test_rows_of_250(self):
        for seed, row in enumerate(great_rows()):
            desk, beside = Desk(), DeskBeside()
            for words in (f"row {text_of(row[:250])}", "show", "unlike 0 250", "firsts 17 203", "most 60", "least 60",
                          "most 250", "most 251", "count 3", "count 250", "put 250 4", "put 0 -4", "change 120 4",
                          "take 251", "take 251", "show", "unlike 0 251", "unlike 0 252", "undo", "undo", "show"):
                self.assert_said(desk, words, beside.say(words))

    def test_parts_of_rows_of_250(self):
        for row in great_rows():
            desk = Desk()
            desk.say(f"row {text_of(row[:250])}")
            for many in (1, 2, 3, 40, 249, 250, 251):
                told = row_by_looking(desk.say(f"part {many}"))
                self.assertEqual(told[-1], 250)
                for first, behind in zip([0] + told, told):
                    self.assertTrue(0 < unlike_by_looking(row, first, behind) <= many)
                    self.assertTrue(behind == 250 or unlike_by_looking(row, first, behind + 1) > many)


GOOD = ["unlike 0 3", "firsts 1 4", "change 2 -8", "put 4 8", "take 1", "undo", "show", "most 2", "least 2", "count 2",
        "part 2"]
BAD_COUNTS = ["", "00", "01", "007", "+1", "-1", "-0", "-", "1000000", "0000001", "1234567", "9999999", "1" * 31, "a",
              "1a", "0x1", "1.0", "1_0", "None", "True", "\n", "1\n", "\n1", "~", "l", "O"]
BAD_NUMBERS = ["", "+1", "+0", "00", "01", "-01", "-0", "-00", "-", "--1", "1-", "1" * 31, "-" + "9" * 31, "a", "1a",
               "1.0", "1e3", "1_000", "\n", "1\n", "-\n1", "None", "1,2", "~"]


class NoCommands(DeskCase):
    def assert_none_of_these(self, things):
        self.assert_refused_and_unchanged(NoCommand, things)

    def test_the_good_ones_are_good(self):
        for words in GOOD:
            desk, beside = Desk(), DeskBeside()
            for said in ("row 7 -2 7 9", "put 0 4", words, "show"):
                right = beside.say(said)
                self.assertIsInstance(right, str)
                self.assert_said(desk, said, right)

    def test_a_word_too_many_or_too_few(self):
        for words in GOOD:
            parts = words.split(" ")
            for more in ("", "0", "1", "a", "-", "undo", "\n", words):
                self.assert_none_of_these([f"{words} {more}", f"{more} {words}"])
            for rank in range(len(parts)):
                self.assert_none_of_these([" ".join(parts[:rank] + parts[rank + 1:])])
                self.assert_none_of_these([" ".join(parts[:rank] + [parts[rank]] + parts[rank:])])

    def test_blanks_line_feeds_and_great_letters(self):
        for words in GOOD:
            things = [words + " ", " " + words, words + "  ", words + "\n", "\n" + words, words.upper(), words.title(),
                      words.capitalize(), words + ".", words + ";", f'"{words}"', f"{words}\n{words}"]
            if " " in words:
                things += [words.replace(" ", more) for more in ("  ", "\n", ",", "-", "", "\n ", " \n")]
            self.assert_none_of_these(things)

    def test_other_words(self):
        self.assert_none_of_these(["", " ", "  ", "\n", "~", "-", "0", "1 2 3", "help", "ok", "none", "row", "Row 1",
                                   "ROW 1", " row 1", "rows 1", "row\n1", "row\n", "row-", "row,1", "unlik 0 3",
                                   "unlikes 0 3", "first 0 3", "changes 0 1", "redo", "undo undo", "undo 1", "show 1",
                                   "sums", "longest 1", "shows", "sho", "un", "part", "x" * 6000, " " * 6000,
                                   "\n" * 6000, "unlike " + "0" * 5000, "most " + "9" * 5000, "put 0 " + "9" * 5000])

    def test_words_that_are_no_count(self):
        for bad in BAD_COUNTS:
            things = [f"unlike {bad} 3", f"unlike 0 {bad}", f"firsts {bad} 3", f"firsts 0 {bad}", f"change {bad} 1",
                      f"put {bad} 1", f"take {bad}", f"most {bad}", f"least {bad}", f"count {bad}", f"part {bad}",
                      f"unlike {bad} {bad}", f"change {bad} {bad}"]
            self.assert_none_of_these(things)

    def test_words_that_are_no_number(self):
        for bad in BAD_NUMBERS:
            self.assert_none_of_these([f"{name} {place} {bad}" for name in ("change", "put") for place in (0, 1, 4)])

    def test_part_is_from_one_on(self):
        self.assert_none_of_these(["part 0", "part 00", "part -1"])
        self.assert_refused_and_unchanged(NoCommand, ["part 0"], "-")

    def test_six_figures_are_counts(self):
        self.assert_talk([("row 5 5", "ok"), ("count 999999", "0"), ("part 100000", "2"), ("unlike 0 999999", NoWindow),
                          ("firsts 999999 999999", NoWindow), ("most 999999", NoWindow), ("least 100000", NoWindow),
                          ("take 999999", NoPlace), ("put 999999 1", NoPlace), ("change 123456 1", NoPlace)])

    def test_things_that_are_no_text(self):
        things = [thing for name, thing in odd_things() if not isinstance(thing, str)]
        things += [0, 1, -1, GREAT, 10 ** 5000, ["show"], ("show",), {"show": "show"}, ["row 1"], [], ["undo"], b"show"]
        things += [deep_list(depth) for depth in (1, 2, 900, 5000, 100000)]
        self.assert_none_of_these(things)

    def test_every_text_near_a_command(self):
        source = random.Random(111)
        signs = "0123456789 -+\naAn~"
        for time in range(4000):
            words = source.choice(GOOD + ["row 1 -2", "row -", "most 12", "put 0 -10"])
            place = source.randrange(len(words) + 1)
            more = source.choice(("", source.choice(signs)))
            near = words[:place] + more + words[place + source.choice((0, 1)):]
            desk, beside = Desk(), DeskBeside()
            for said in ("row 7 -2 7 9", "put 0 4", near, "show", "undo", "show", "undo"):
                self.assert_said(desk, said, beside.say(said))


class OtherRefusals(DeskCase):
    def test_no_row(self):
        texts = ["", " ", "  ", " 1", "1 ", "1  2", "- ", "--", "-0", "1 -0", "+1", "01", "00", "1 -", "- 1", "a",
                 "1 a", "\n", "1\n", "1\n2", "1" * 31, "1 -" + "1" * 31, "row 1", "1,2", "[1]", "1 2 ~", "x" * 5990]
        self.assert_refused_and_unchanged(NoRow, [f"row {text}" for text in texts])
        self.assert_refused_and_unchanged(NoRow, [f"row {text}" for text in texts], "-")

    def test_no_window(self):
        things = [f"{name} {window}" for name in ("unlike", "firsts")
                  for window in ("0 6", "1 0", "5 4", "6 6", "5 6", "6 5", "0 999999", "999999 0", "999999 999999")]
        things += [f"{name} {width}" for name in ("most", "least") for width in (6, 7, 10, 999999)]
        self.assert_refused_and_unchanged(NoWindow, things)

    def test_no_place(self):
        things = [f"{words} {place}" for words in ("take",) for place in (5, 6, 10, 999999)]
        things += [f"change {place} 3" for place in (5, 6, 10, 999999)] + [f"put {place} 3" for place in (6, 7, 999999)]
        self.assert_refused_and_unchanged(NoPlace, things)

    def test_the_ends_are_windows_and_places(self):
        self.assert_talk([("row 7 -2 7 9 9", "ok"), ("unlike 0 5", "3"), ("unlike 5 5", "0"), ("firsts 5 5", "-"),
                          ("most 5", "3 0"), ("least 5", "3 0"), ("change 4 1", "ok"), ("put 5 2", "ok"),
                          ("show", "7 -2 7 9 1 2"), ("take 5", "2"), ("put 0 6", "ok"), ("take 0", "6")])

    def test_no_command_goes_ahead(self):
        things = ["change 99 +1", "change 99 01", "put 99 a", "put 99 -0", "change 99 " + "1" * 31,
                  "put 99 -" + "1" * 31, "change 99", "put 99", "take 99 1", "take 0000099", "take 9999999",
                  "unlike 99 99 99", "unlike 99 -1", "unlike 9 01", "firsts 99", "most 99 1", "most 0099",
                  "least -99", "change 99 1 2", "change 099 1"]
        self.assert_refused_and_unchanged(NoCommand, things)
        self.assert_refused_and_unchanged(NoCommand, things, "-")


class WholeProgram(DeskCase):
    def desk_of(self, row):
        desk = Desk()
        desk.say(f"row {text_of(row)}")
        return desk

    def rows(self):
        return list(short_rows()) + [row[:250] for row in long_rows()]

    def test_each_number_is_how_many_firsts_are_told(self):
        for row in self.rows():
            desk = self.desk_of(row)
            for first, behind in all_windows(row) if len(row) <= 4 else some_windows(row)[::37]:
                firsts = row_by_looking(desk.say(f"firsts {first} {behind}"))
                self.assertEqual(desk.say(f"unlike {first} {behind}"), str(len(firsts)))
                self.assertIs(are_firsts(row, first, behind, firsts), True)

    def test_counts_together_are_all_windows(self):
        for row in self.rows():
            desk = self.desk_of(row)
            told = [int(desk.say(f"count {many}")) for many in range(len(set(row)) + 2)]
            self.assertEqual(sum(told), len(row) * (len(row) + 1) // 2)
            self.assertEqual((told[0], told[-1]), (0, 0))

    def test_a_partings_windows_have_at_most_so_many(self):
        for row in self.rows():
            desk = self.desk_of(row)
            for many in (1, 2, 3, 10, 39, 250):
                places = row_by_looking(desk.say(f"part {many}"))
                for first, behind in zip([0] + places, places):
                    self.assertTrue(1 <= int(desk.say(f"unlike {first} {behind}")) <= many)

    def test_the_most_and_the_least_are_a_windows_own(self):
        for row in self.rows():
            desk = self.desk_of(row)
            for width in {0, len(row) // 3, len(row) // 2, len(row)}:
                for name in ("most", "least"):
                    number, first = desk.say(f"{name} {width}").split(" ")
                    self.assertEqual(desk.say(f"unlike {first} {int(first) + width}"), number)

    def test_as_often_undone_as_changed(self):
        for seed, row in enumerate(self.rows()):
            source = random.Random(seed)
            desk = self.desk_of(row)
            beside = Beside(row)
            while len(beside.earlier) < 30:
                do, place, number = random_step(source, len(beside.now))
                if do != "undo":
                    beside.step(do, place, number)
                    desk.say(f"take {place}" if do == "take" else f"{do} {place} {number}")
            self.assertEqual(desk.say("show"), text_of(beside.now))
            # The changed row answers as a new one of its numbers.
            other = self.desk_of(beside.now)
            for words in (f"unlike 0 {len(beside.now)}", f"firsts 0 {len(beside.now)}", "most 2", "count 2", "part 2"):
                self.assertEqual(self.said(desk, words), self.said(other, words))
            for time in range(30):
                self.assertEqual(desk.say("undo"), "ok")
            for words, right in (("show", text_of(row)), ("undo", "none"), ("show", text_of(row))):
                self.assert_said(desk, words, right)

    def said(self, desk, words):
        try:
            return desk.say(words)
        except RowError as refusal:
            return type(refusal)


if __name__ == "__main__":
    unittest.main()
