"""Promises 57 and 58: texts of teams, ways and pairs, written and read back."""

import unittest
from random import Random

from nestboards.errors import InvalidText, NestError
from nestboards.texts import read_pairs, read_team, read_way, write_pairs, write_team, write_way
from nestboards.ways import nth_way
from tests.helper import EXAMPLE, GREAT_TEAMS, MIXED, STAIRS, all_ways, pair_pool, pairs_of, small_teams

READERS = (read_team, read_way, read_pairs)
TWENTY = " ".join(str(number) for number in range(20))
TWENTY_PAIRS = " ".join(f"{worker}:{worker}" for worker in range(20))
# Words that are no number from 0 to 59 in any text.
NO_NUMBERS = [
    "", "60", "99", "100", "059", "00", "01", "007", "+1", "-1", "-0", "--", "1-", "1.0", "1e1", "1_0", "0x1", "x", "X",
    "1x", "x1", "None", "\n", "1\n", "\n1", "1\n2", "1,2", "1;", "'1'", "[1", "(1)", "1:", ":1", ":", "::", "1:2:3",
    "0" * 31, "9" * 31, "9" * 32, "1" * 5000, "0" * 8000, "9" * 7990, "-" * 40, "~", "_", "/", "*", "#", "O", "l",
]


class WrittenTest(unittest.TestCase):
    """Promise 57."""

    def test_teams(self):
        told = [([0], "0"), ([2, 1, 2], "2 1 2"), ([40] * 3, "40 40 40"), ([0] * 19 + [59], "0 " * 19 + "59")]
        for team, text in told:
            self.assertEqual(write_team(team), text)
            self.assertEqual(read_team(text), team)

    def test_ways(self):
        told = [
            ([None], "-"), ([0], "0"), ([1, None, 0], "1 - 0"), ([None] * 3, "- - -"), ([59, 0, None], "59 0 -"),
            (list(range(40, 60)), " ".join(str(job) for job in range(40, 60))), ([None] * 20, "-" + " -" * 19),
        ]
        for way, text in told:
            self.assertEqual(write_way(way), text)
            self.assertEqual(read_way(text), way)

    def test_pairs(self):
        told = [
            ([], "-"), ([(0, 0)], "0:0"), ([(19, 59)], "19:59"), ([(2, 1), (0, 0), (2, 0)], "2:1 0:0 2:0"),
            ([(0, 5), (1, 5)], "0:5 1:5"), ([(worker, worker) for worker in range(20)], TWENTY_PAIRS),
        ]
        for pairs, text in told:
            self.assertEqual(write_pairs(pairs), text)
            self.assertEqual(read_pairs(text), pairs)
            self.assertTrue(all(isinstance(pair, tuple) for pair in read_pairs(text)))

    def test_there_and_back(self):
        for team in small_teams() + GREAT_TEAMS:
            self.assertEqual(read_team(write_team(team)), team)
            self.assertEqual(write_team(read_team(write_team(team))), write_team(team))
        for team in small_teams()[::3]:
            for way in all_ways(team):
                self.assertEqual(read_way(write_way(way)), way)
                self.assertEqual(read_pairs(write_pairs(pairs_of(way))), pairs_of(way))
            pairs = pair_pool(team)[:20]
            self.assertEqual(read_pairs(write_pairs(pairs[::-1])), pairs[::-1])
        for team in GREAT_TEAMS:
            way = nth_way(team, 0, 0)
            self.assertEqual(read_way(write_way(way)), way)
        for index in (0, 10 ** 20, 40 ** 20 - 1):
            way = nth_way(STAIRS, 20, index)
            self.assertEqual(read_way(write_way(way)), way)

    def test_no_two_values_have_one_text(self):
        ways = all_ways([3, 3, 3])
        self.assertEqual(len({write_way(way) for way in ways}), len(ways))
        teams = {tuple(team) for team in small_teams()}
        self.assertEqual(len({write_team(list(team)) for team in teams}), len(teams))

    def test_what_is_passed_stays_and_what_is_read_is_new(self):
        team, way, pairs = list(MIXED), [1, None, 0], [(2, 1), (0, 0)]
        rows = [(write_team, read_team, team), (write_way, read_way, way), (write_pairs, read_pairs, pairs)]
        for write, read, value in rows:
            text = write(value)
            first, second = read(text), read(text)
            self.assertEqual(first, second)
            self.assertIsNot(first, second)
            self.assertIsNot(first, value)
            first.append(99)
            self.assertEqual(read(text), second)
        self.assertEqual((team, way, pairs), (MIXED, [1, None, 0], [(2, 1), (0, 0)]))
        first = read_pairs("-")
        first.append(1)
        self.assertEqual(read_pairs("-"), [])

    def test_by_name(self):
        self.assertEqual(write_team(team=EXAMPLE), "2 1 2")
        self.assertEqual(write_way(way=[None, 0]), "- 0")
        self.assertEqual(write_pairs(pairs=[(0, 1)]), "0:1")
        self.assertEqual(read_team(text="2 1"), [2, 1])
        self.assertEqual(read_way(text="1 -"), [1, None])
        self.assertEqual(read_pairs(text="0:1"), [(0, 1)])


class ReadTest(unittest.TestCase):
    """Promise 58."""

    def check(self, read, text, place):
        with self.assertRaises(InvalidText, msg=(read.__name__, text[:80])) as caught:
            read(text)
        self.assertEqual(caught.exception.place, place, (read.__name__, text[:80]))
        self.assertIs(type(caught.exception.place), int)
        self.assertIsInstance(caught.exception, NestError)

    def test_the_empty_string(self):
        for read in READERS:
            self.check(read, "", 0)

    def test_blanks_too_many(self):
        for read, text in ((read_team, "2 1 2"), (read_way, "1 - 0"), (read_pairs, "0:1 2:0 1:3")):
            self.assertEqual(len(read(text)), 3)
            words = text.split(" ")
            self.check(read, " ", 0)
            self.check(read, "  ", 0)
            self.check(read, " " + text, 0)
            self.check(read, text + " ", 3)
            self.check(read, text + "  ", 3)
            self.check(read, words[0] + "  " + words[1], 1)
            self.check(read, words[0] + " " + words[1] + "  " + words[2], 2)
            self.check(read, words[0] + "   ", 1)

    def test_words_that_are_no_numbers(self):
        for word in NO_NUMBERS:
            for place in (0, 1, 3):
                self.check(read_team, self.put_in("2 1 2 0", word, place), place)
                self.check(read_way, self.put_in("2 1 - 0", word, place), place)
                self.check(read_pairs, self.put_in("2:1 0:0 0:1 1:0", word, place), place)
            self.check(read_team, word, 0)
            self.check(read_way, word, 0)
            self.check(read_pairs, word, 0)

    def put_in(self, text, word, place):
        words = text.split(" ")
        words[place] = word
        return " ".join(words)

    def test_a_newline_in_a_word(self):
        for read, text in ((read_team, "2 1\n2"), (read_way, "1 -\n0"), (read_pairs, "0:1 2:0\n1:3")):
            self.check(read, text, 1)
            self.check(read, "\n" + text, 0)
            self.check(read, text.replace(" ", "\n"), 0)
        self.check(read_way, "-\n", 0)
        self.check(read_pairs, "-\n", 0)
        self.check(read_pairs, "0:1\n", 0)
        self.check(read_pairs, "0:\n1", 0)

    def test_a_dash(self):
        self.check(read_team, "-", 0)
        self.check(read_team, "2 - 1", 1)
        self.assertEqual(read_way("-"), [None])
        self.assertEqual(read_way("- -"), [None, None])
        self.assertEqual(read_pairs("-"), [])
        for text in ("- 0:1", "- -", "- ", "- x", "-  ", "- 0:1 0:1", "- " + TWENTY_PAIRS):
            self.check(read_pairs, text, 1)
        self.check(read_pairs, "0:1 -", 1)
        self.check(read_pairs, "0:1 1:0 -", 2)
        self.check(read_pairs, "--", 0)
        self.check(read_pairs, "-:-", 0)
        self.check(read_pairs, "0:-", 0)
        self.check(read_pairs, "-:0", 0)
        self.check(read_pairs, " -", 0)

    def test_numbers_beyond_the_limits(self):
        for number in (60, 61, 99, 100, 10 ** 30):
            self.check(read_team, f"0 {number}", 1)
            self.check(read_way, f"0 {number}", 1)
            self.check(read_pairs, f"0:0 0:{number}", 1)
        for number in (20, 21, 59, 99, 100, 10 ** 30):
            self.check(read_pairs, f"0:0 {number}:0", 1)
        self.assertEqual(read_team("0 " * 19 + "59")[-1], 59)
        self.assertEqual(read_way("59"), [59])
        self.assertEqual(read_pairs("19:59"), [(19, 59)])

    def test_parts_of_pairs(self):
        words = [
            "0", "00", "0:", ":0", ":", "0::0", "0:0:0", "0:0:", ":0:0", "00:0", "0:00", "01:0", "0:01", "+0:0", "0:+0",
            "-1:0", "0:-1", "0;0", "0.0", "0/0", "a:0", "0:a", "0:0a", "(0:0)", "9" * 31 + ":0", "0:" + "9" * 31,
            "0:" + "0" * 31, "1" * 3000 + ":" + "1" * 3000,
        ]
        for word in words:
            self.check(read_pairs, word, 0)
            self.check(read_pairs, "2:1 " + word + " 0:3", 1)
            self.check(read_pairs, "2:1 0:3 " + word, 2)
        self.check(read_pairs, "0 : 0", 0)
        self.check(read_pairs, "0:0 1: 0", 1)

    def test_too_many_words(self):
        self.assertEqual(read_team(TWENTY), list(range(20)))
        self.check(read_team, TWENTY + " 0", 20)
        self.check(read_team, TWENTY + " x", 20)
        self.check(read_team, TWENTY + " 0 0 x", 20)
        self.check(read_team, "0 " * 8, 8)
        self.assertEqual(read_way(TWENTY), list(range(20)))
        self.check(read_way, TWENTY + " 20", 20)
        self.check(read_way, TWENTY + " -", 20)
        self.check(read_way, "- " * 20 + "-", 20)
        self.check(read_way, "- " * 20 + "60", 20)
        self.assertEqual(len(read_pairs(TWENTY_PAIRS)), 20)
        self.check(read_pairs, TWENTY_PAIRS + " 0:1", 20)
        self.check(read_pairs, TWENTY_PAIRS + " -", 20)
        self.check(read_pairs, TWENTY_PAIRS + " 0:0", 20)
        self.check(read_team, " ".join(["1"] * 4000), 20)
        self.check(read_way, " ".join(["1"] * 4000), 1)
        self.check(read_pairs, " ".join(["1:1"] * 2000), 1)

    def test_levels_that_are_no_team(self):
        told = [
            ("41", 1), ("59", 1), ("42 0", 2), ("0 42", 2), ("41 41", 2), ("42 42 0", 3), ("59 59", 2),
            ("0 " * 18 + "59 59", 20), ("0 " * 18 + "59", 19),
        ]
        for text, place in told:
            self.check(read_team, text, place)
        # Each word of these can stand, and they are a team.
        self.assertEqual(read_team("41 0"), [41, 0])
        self.assertEqual(read_team("0 " * 18 + "59 58"), [0] * 18 + [59, 58])
        # Where a word cannot stand, that is told ahead of the levels.
        self.check(read_team, "59 60", 1)
        self.check(read_team, "59 59 x", 2)

    def test_jobs_and_pairs_a_second_time(self):
        self.check(read_way, "0 0", 1)
        self.check(read_way, "0 - 1 0 1", 3)
        self.check(read_way, "5 - - 5", 3)
        self.check(read_way, "59 58 59", 2)
        self.check(read_pairs, "0:1 0:1", 1)
        self.check(read_pairs, "0:1 1:0 0:0 1:0 0:1", 3)
        self.assertEqual(read_way("1 - 11 - -"), [1, None, 11, None, None])
        self.assertEqual(read_pairs("0:1 1:1 0:2 1:2"), [(0, 1), (1, 1), (0, 2), (1, 2)])
        self.assertEqual(read_team("0 0 0"), [0, 0, 0])

    def test_the_first_word_at_fault(self):
        self.check(read_team, "x y", 0)
        self.check(read_team, "0 60 x", 1)
        self.check(read_way, "0 0 60", 1)
        self.check(read_way, "0 60 0", 1)
        self.check(read_pairs, "0:0 0:60 0:0", 1)
        self.check(read_pairs, "0:0 0:0 x", 1)


class BentTest(unittest.TestCase):
    """Promise 58: texts with one sign or word bent, put in, taken out, exchanged or doubled."""

    def test_texts(self):
        for team in [[2, 1, 2], [0], [10, 40, 3, 11], [59 - place for place in range(20)][::-1], MIXED]:
            self.check_all(read_team, write_team, write_team(team), team_by_hand)
        for way in ([1, None, 0], [None], [10, 59, None, 11], [None] * 20, list(range(40, 60))):
            self.check_all(read_way, write_way, write_way(way), way_by_hand)
        for pairs in ([], [(0, 1)], [(2, 1), (19, 59), (10, 10)], [(worker, 1) for worker in range(20)]):
            self.check_all(read_pairs, write_pairs, write_pairs(pairs), pairs_by_hand)

    def check_all(self, read, write, text, by_hand):
        for bent in [text] + bent_texts(text):
            value = by_hand(bent)
            if isinstance(value, int):
                with self.assertRaises(InvalidText, msg=bent) as caught:
                    read(bent)
                self.assertEqual(caught.exception.place, value, bent)
            else:
                self.assertEqual(read(bent), value, bent)
                self.assertEqual(write(value), bent)


def bent_texts(text):
    drawn = Random(text)
    found = []
    for sign in "0159-: +x\n":
        for place in sorted({drawn.randrange(len(text) + 1) for _ in range(6)} | {0, len(text)}):
            found.append(text[:place] + sign + text[place:])
            found.append(text[:place] + sign + text[place + 1:])
    found += [text[:place] + text[place + 1:] for place in range(len(text))]
    found += [text[:place] + text[place:place + 1] + text[place:] for place in range(len(text))]
    words = text.split(" ")
    for place in range(len(words)):
        found.append(" ".join(words[:place] + words[place + 1:]))
        found.append(" ".join(words[:place] + [words[place]] + words[place:]))
        found.append(" ".join(words[:place] + words[place:][::-1]))
        found.append(" ".join(words[place:] + words[:place]))
    return found


NUMBERS = {str(number): number for number in range(60)}


def team_by_hand(text):
    """The levels, or the number of the word at fault: no word but these 60 can stand."""
    words = text.split(" ")
    for place, word in enumerate(words):
        if word not in NUMBERS or place > 19:
            return place
    levels = [NUMBERS[word] for word in words]
    fits = all(level <= 40 + place for place, level in enumerate(sorted(levels)))
    return levels if fits else len(words)


def way_by_hand(text):
    words = text.split(" ")
    for place, word in enumerate(words):
        if place > 19 or word != "-" and (word not in NUMBERS or word in words[:place]):
            return place
    return [NUMBERS.get(word) for word in words]


PAIRS = {f"{worker}:{job}": (worker, job) for worker in range(20) for job in range(60)}


def pairs_by_hand(text):
    words = text.split(" ")
    if words == ["-"]:
        return []
    for place, word in enumerate(words):
        if words[0] == "-" and place == 0:
            continue
        if words[0] == "-" or place > 19 or word not in PAIRS or word in words[:place]:
            return place
    return [PAIRS[word] for word in words]


if __name__ == "__main__":
    unittest.main()
