"""Promises 59 and 60: sessions, line by line."""

import inspect
import unittest
from random import Random

from nestboards import session as file
from nestboards.alike import count_alike, strict_team
from nestboards.counting import counts, greatest_size
from nestboards.errors import NestError
from nestboards.known import next_share
from nestboards.live import Bench
from nestboards.session import session
from nestboards.skips import skips_of
from nestboards.ways import nth_way

# How many numbers each line has.
LINES = {
    "hire": 1, "learn": 1, "give": 2, "take": 1, "undo": 0, "back": 1, "new": 0, "team": 0, "way": 0, "counts": 0,
    "rest": 0, "size": 0, "alike": 0, "strict": 0, "list": 2, "skips": 0, "share": 3,
}
RIGHT = {
    "hire": "hire 2", "learn": "learn 1", "give": "give 1 0", "take": "take 0", "undo": "undo", "back": "back 2",
    "new": "new", "team": "team", "way": "way", "counts": "counts", "rest": "rest", "size": "size", "alike": "alike",
    "strict": "strict", "list": "list 2 3", "skips": "skips", "share": "share 2 1 0",
}
# A bench with the team of the document's example of which worker 0 has job 1.
START = ["hire 2", "hire 1", "hire 2", "give 0 1"]
STATE = ["team", "way", "counts", "rest", "size", "alike", "strict", "skips", "back 4"]
TOLD = ["2 1 2", "1 - -", "1 5 4 0", "1 2 0", "2", "3", "0 2 3", "3", "ok"]


def answers_to(lines):
    return session("\n".join(lines)).split("\n")


def joined(values):
    return " ".join("-" if value is None else str(value) for value in values)


def told_by_hand(bench, word, numbers):
    """The answer by the methods and functions, for a line that has as many numbers as it needs."""
    team, way = bench.team, bench.way
    calls = {"hire": bench.hire, "learn": bench.learn, "give": bench.give, "take": bench.take_back, "undo": bench.undo}
    calls["back"] = bench.undo_to
    if word in calls:
        return "ok" if calls[word](*numbers) is None else "wrong"
    if word in ("team", "way"):
        return joined(team if word == "team" else way) or "-"
    if word in ("size", "alike", "skips"):
        row = {"size": greatest_size, "alike": count_alike, "skips": skips_of}[word]
        return str(row(team, way) if word == "skips" else row(team))
    if word == "share":
        pairs = [(worker, job) for worker, job in enumerate(way) if job is not None]
        top, bottom = next_share(team, pairs, *numbers)
        return str(top) + "/" + str(bottom)
    rows = {"counts": lambda: counts(team), "rest": bench.rest_counts, "strict": lambda: strict_team(team)}
    return joined(rows[word]() if word != "list" else nth_way(team, *numbers))


def answers_by_hand(lines):
    bench = Bench()
    found = []
    for line in lines:
        word, *words = line.split(" ")
        numbers = [int(word) for word in words if word in (str(number) for number in range(1000))]
        if LINES.get(word) != len(words) or len(numbers) < len(words):
            found.append("?")
        elif word == "new":
            bench = Bench()
            found.append("ok")
        else:
            try:
                found.append(told_by_hand(bench, word, numbers))
            except NestError as error:
                found.append(type(error).__name__)
    return found


class ExampleTest(unittest.TestCase):
    def test_each_kind_of_line(self):
        told = [
            ("hire 2", "ok"), ("hire 1", "ok"), ("hire 1", "ok"), ("learn 2", "ok"), ("team", "2 1 2"),
            ("way", "- - -"), ("counts", "1 5 4 0"), ("rest", "1 5 4 0"), ("size", "2"), ("alike", "3"),
            ("strict", "0 2 3"), ("list 2 0", "1 0 -"), ("list 2 3", "1 - 0"), ("list 0 0", "- - -"),
            ("skips", "5"), ("give 0 1", "ok"), ("way", "1 - -"), ("rest", "1 2 0"), ("skips", "3"),
            ("share 2 1 0", "1/2"), ("share 2 0 1", "1/1"), ("share 1 2 0", "0/1"), ("give 2 0", "ok"),
            ("way", "1 - 0"), ("skips", "2"), ("rest", "1 0"), ("take 0", "ok"), ("way", "- - 0"),
            ("undo", "ok"), ("way", "1 - 0"), ("back 3", "ok"), ("way", "- - -"), ("team", "2 1 1"),
            ("new", "ok"), ("team", "-"), ("way", "-"), ("rest", "1"), ("undo", "NothingToUndo"),
        ]
        self.assertEqual(answers_to([line for line, _ in told]), [answer for _, answer in told])

    def test_errors(self):
        told = [
            ("give 0 0", "Refused"), ("give 1 1", "Refused"), ("give 2 1", "Refused"), ("take 1", "Refused"),
            ("give 3 0", "InvalidWorker"), ("give 1 60", "InvalidJob"), ("give 3 60", "InvalidWorker"),
            ("take 3", "InvalidWorker"), ("learn 3", "InvalidWorker"), ("hire 41", "InvalidNumber"),
            ("back 5", "InvalidIndex"), ("list 4 0", "InvalidNumber"), ("list 2 4", "InvalidIndex"),
            ("list 3 0", "InvalidIndex"), ("share 4 0 0", "InvalidNumber"), ("share 2 3 0", "InvalidWorker"),
            ("share 2 0 60", "InvalidJob"), ("share 3 0 0", "NoWay"), ("share 0 0 0", "NoWay"),
            ("share 4 3 60", "InvalidNumber"),
        ]
        for line, answer in told:
            self.assertEqual(answers_to(START + [line] + STATE)[4:], [answer] + TOLD, line)

    def test_nobody(self):
        lines = ["counts", "size", "alike", "strict", "list 0 0", "list 9 9", "skips", "share 0 0 0", "share 9 9 99"]
        for line in lines:
            self.assertEqual(session(line), "InvalidTeam", line)
        told = {
            "team": "-", "way": "-", "rest": "1", "undo": "NothingToUndo", "back 0": "ok", "back 1": "InvalidIndex",
            "learn 0": "InvalidWorker", "take 0": "InvalidWorker", "give 0 0": "InvalidWorker", "new": "ok",
        }
        for line, answer in told.items():
            self.assertEqual(session(line), answer, line)

    def test_bounds(self):
        lines = ["hire 40"] * 20 + ["hire 40", "hire 41", "learn 0", "counts", "list 20 0", "rest"]
        told = answers_to(lines)
        self.assertEqual(told[:23], ["ok"] * 20 + ["InvalidTeam", "InvalidNumber", "InvalidNumber"])
        self.assertEqual(told[23], joined(counts([40] * 20)))
        self.assertEqual(told[24], joined(range(20)))
        self.assertEqual(told[25], told[23])
        self.assertEqual(answers_to(["hire 0", "way", "give 0 0", "skips", "share 0 0 0"]),
                         ["ok", "-", "Refused", "0", "0/1"])


class LinesTest(unittest.TestCase):
    """Promise 60: each line with words too many, too few or bent."""

    def check_unknown(self, line):
        self.assertEqual(answers_to(START + [line] + STATE)[4:], ["?"] + TOLD, repr(line)[:80])
        self.assertEqual(session(line), "?")

    def test_no_lines(self):
        self.assertEqual(session(""), "?")
        self.assertEqual(session("\n"), "?\n?")
        self.assertEqual(session("\n\n"), "?\n?\n?")
        self.assertEqual(session("hire 2\n"), "ok\n?")
        self.assertEqual(session("\nhire 2\n\nteam"), "?\nok\n?\n2")
        for line in ("", " ", "  ", "?", "ok", "0", "1 2", "-", "quit", "take_back 0", "undo_to 0", "mark", "twin"):
            self.check_unknown(line)

    def test_words_too_many_or_too_few(self):
        for word, line in RIGHT.items():
            self.check_unknown(line + " 0")
            self.check_unknown(line + " x")
            self.check_unknown(line + " " + line)
            if LINES[word]:
                self.check_unknown(word)
                self.check_unknown(line.rsplit(" ", 1)[0])

    def test_empty_words(self):
        for line in RIGHT.values():
            self.check_unknown(" " + line)
            self.check_unknown(line + " ")
            self.check_unknown(line + "  ")
            if " " in line:
                self.check_unknown(line.replace(" ", "  ", 1))
                self.check_unknown(line.rsplit(" ", 1)[0] + " ")

    def test_bent_words(self):
        for line in RIGHT.values():
            word = line.split(" ")[0]
            bents = [word.upper(), word.title(), word[:-1], word[::-1], word + "s", word * 2, "x" + word]
            for bent in bents:
                if bent != word:
                    self.check_unknown(line.replace(word, bent, 1))
            self.check_unknown(line.replace(" ", "_") if " " in line else line + "_")
            self.check_unknown(line.replace(" ", ":") if " " in line else line + ":")

    def test_bent_numbers(self):
        bents = ["01", "00", "+1", "-1", "-0", "-", "x", "1x", "1.0", "1e1", "1_0", "0x1", "one", "1,", "'1'", "None"]
        bents += ["0" * 31, "1" * 32, "9" * 32, "1" * 40, "1" * 5000, "0" * 7000]
        for line in RIGHT.values():
            words = line.split(" ")
            for place in range(1, len(words)):
                for bent in bents:
                    self.check_unknown(" ".join(words[:place] + [bent] + words[place + 1:]))

    def test_numbers_of_31_digits(self):
        for number in ("9" * 31, "1" + "0" * 30, "1" * 31, "1" * 30):
            told = [
                ("hire {}", "InvalidNumber"), ("learn {}", "InvalidWorker"), ("take {}", "InvalidWorker"),
                ("give {} 0", "InvalidWorker"), ("give 1 {}", "InvalidJob"), ("back {}", "InvalidIndex"),
                ("list {} 0", "InvalidNumber"), ("list 2 {}", "InvalidIndex"), ("share {} 0 0", "InvalidNumber"),
                ("share 2 {} 0", "InvalidWorker"), ("share 2 0 {}", "InvalidJob"),
            ]
            for line, answer in told:
                lines = START + [line.format(number)] + STATE
                self.assertEqual(answers_to(lines)[4:], [answer] + TOLD, line)

    def test_an_index_of_31_digits(self):
        # The ways of size 20 of twenty workers with the level 40 are more than 10 ** 29.
        index = 10 ** 29
        told = answers_to(["hire 40"] * 20 + [f"list 20 {index}"])[20]
        self.assertEqual(told, joined(nth_way([40] * 20, 20, index)))

    def test_long_answers(self):
        told = answers_to(["hire 40"] * 20 + ["give 0 0", "share 20 19 39"])
        self.assertEqual(told[-1], "1/39")
        self.assertGreater(max(len(word) for word in answers_to(["hire 40"] * 20 + ["counts"])[-1].split(" ")), 29)


def drawn_line(drawn):
    word = drawn.choice(list(LINES) + ["hire", "give", "give", "give", "learn", "take", "share", "list", "undo"])
    greatest = {"hire": 6, "learn": 3, "give": 4, "take": 3, "back": 30, "list": 3, "share": 3}.get(word, 0)
    if word in ("new", "back") and drawn.random() < 0.7:
        return "way"
    many = LINES[word] + drawn.choice([0] * 20 + [-1, 1])
    words = [word] + [str(drawn.choice([drawn.randrange(greatest + 1)] * 30 + [41, 60, 999])) for _ in range(many)]
    if drawn.random() < 0.06:
        words[drawn.randrange(len(words))] = drawn.choice(["", "-", "01", "x", "-1", "hire"])
    return " ".join(words)


class DrawnSessionsTest(unittest.TestCase):
    """Promise 59: up to a hundred lines, right ones and others, against the methods and functions."""

    def test_drawn_sessions(self):
        seen = {}
        for seed in range(150):
            drawn = Random(seed)
            start = [f"hire {drawn.randrange(6)}" for _ in range(drawn.randrange(5))]
            lines = start + [drawn_line(drawn) for _ in range(drawn.randrange(100 - len(start)) + 1)]
            told = answers_to(lines)
            self.assertEqual(told, answers_by_hand(lines), lines)
            for line, answer in zip(lines, told):
                seen.setdefault(line.split(" ")[0], set()).add(answer)
        self.check_seen(seen)

    def check_seen(self, seen):
        for word in LINES:
            self.assertGreater(len(seen[word]), 1, word)
        for word, answer in (("give", "Refused"), ("take", "Refused"), ("undo", "NothingToUndo"), ("share", "NoWay")):
            self.assertIn(answer, seen[word])
        for word in ("counts", "size", "alike", "strict", "list", "skips", "share"):
            self.assertIn("InvalidTeam", seen[word])

    def test_lines_that_answer_an_error_change_nothing(self):
        for seed in range(40):
            drawn = Random(500 + seed)
            lines = [drawn_line(drawn) for _ in range(60)]
            told = answers_to(lines)
            kept = [line for line, answer in zip(lines, told) if answer != "?" and not is_error(answer)]
            self.assertEqual(answers_to(kept + ["x"])[:-1], [row for row in told if row != "?" and not is_error(row)])

    def test_sessions_do_not_share_a_bench(self):
        self.assertEqual(session("hire 3\nteam"), "ok\n3")
        self.assertEqual(session("team\nundo"), "-\nNothingToUndo")
        self.assertEqual(session("hire 3\nteam"), "ok\n3")

    def test_by_name_and_one_line_for_each(self):
        self.assertEqual(session(rows="hire 2\nteam"), "ok\n2")
        self.assertEqual(list(inspect.signature(file.session).parameters), ["rows"])
        for many in (1, 2, 50, 100):
            self.assertEqual(session("\n".join(["hire 0"] * many)).count("\n"), many - 1)


def is_error(answer):
    return answer.startswith(("Invalid", "No", "Refused"))


if __name__ == "__main__":
    unittest.main()
