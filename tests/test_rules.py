"""Promise 2 for every function: names, wrong teams, new lists, unchanged arguments."""

import copy
import importlib
import inspect
import unittest

from nestboards.errors import (
    InvalidCounts, InvalidJobs, InvalidList, InvalidPairs, InvalidTeam, InvalidWay, InvalidWorkers, NestError,
)
from tests.helper import (
    EXAMPLE, HIT_TEAMS, STAIRS, no_counts, no_full_lists, no_jobs, no_pairs, no_teams, no_ways, no_workers,
    plain_things,
)

# The functions by their files, each with arguments that are valid.
INTERFACE = {
    "teams": {
        "is_team": {"thing": EXAMPLE},
        "line": {"team": EXAMPLE},
        "spare_numbers": {"team": EXAMPLE},
        "can_do": {"team": EXAMPLE, "worker": 1, "job": 0},
        "able_counts": {"team": EXAMPLE},
        "others": {"team": EXAMPLE, "level": 5},
    },
    "counting": {
        "counts": {"team": EXAMPLE},
        "greatest_size": {"team": EXAMPLE},
        "limit_of": {"team": EXAMPLE},
        "shows_limit": {"team": EXAMPLE, "thing": 2},
        "likeliest": {"team": EXAMPLE},
        "mean_size": {"team": EXAMPLE},
    },
    "ways": {
        "is_way": {"team": EXAMPLE, "thing": [0, None, 1]},
        "nth_way": {"team": EXAMPLE, "many": 2, "index": 3},
        "way_index": {"team": EXAMPLE, "way": [0, None, 1]},
        "next_way": {"team": EXAMPLE, "way": [0, None, 1]},
    },
    "skips": {
        "skips_of": {"team": EXAMPLE, "way": [1, None, 0]},
        "skips_by_worker": {"team": EXAMPLE, "way": [1, None, 0]},
        "skip_counts": {"team": EXAMPLE, "many": 1},
        "nth_by_skips": {"team": EXAMPLE, "many": 2, "skips": 1, "index": 0},
        "skips_index": {"team": EXAMPLE, "way": [0, None, 1]},
        "least_skips": {"team": EXAMPLE, "many": 1},
        "greatest_skips": {"team": EXAMPLE, "many": 1},
        "mean_skips": {"team": EXAMPLE, "many": 1},
    },
    "alike": {
        "are_alike": {"team": EXAMPLE, "other": [3, 0, 2]},
        "parting": {"team": EXAMPLE, "other": [2, 2]},
        "unlike_count": {"team": EXAMPLE, "other": [4, 1]},
        "count_alike": {"team": EXAMPLE},
        "nth_alike": {"team": EXAMPLE, "index": 1},
        "alike_index": {"team": EXAMPLE, "other": [1, 2, 2]},
        "strict_team": {"team": EXAMPLE},
    },
    "back": {
        "is_counts": {"thing": [1, 5, 4, 0]},
        "spare_from": {"counts": [1, 5, 4, 0]},
        "team_from": {"counts": [1, 5, 4, 0]},
        "reason_against": {"counts": [1, 41]},
        "shows_reason": {"counts": [1, 41], "thing": ("left", 1)},
    },
    "hits": {
        "hit_counts": {"team": EXAMPLE},
        "hits_of": {"team": EXAMPLE, "names": [0, 2, 1]},
        "nth_list": {"team": EXAMPLE, "hits": 2, "index": 1},
        "list_index": {"team": EXAMPLE, "names": [2, 0, 1]},
        "pair_by_hits": {"team": EXAMPLE, "worker": 1, "job": 0, "hits": 2},
        "mean_hits": {"team": EXAMPLE},
    },
    "sets": {
        "can_work": {"team": EXAMPLE, "workers": [0, 2]},
        "work_paper": {"team": EXAMPLE, "workers": [0, 1, 2]},
        "shows_work_paper": {"team": EXAMPLE, "workers": [0, 1, 2], "thing": 2},
        "ways_of_workers": {"team": EXAMPLE, "workers": [0, 2]},
        "can_give": {"team": EXAMPLE, "jobs": [0, 1]},
        "give_paper": {"team": EXAMPLE, "jobs": [1, 2]},
        "shows_give_paper": {"team": EXAMPLE, "jobs": [1, 2], "thing": 2},
        "ways_of_jobs": {"team": EXAMPLE, "jobs": [0, 1]},
        "ways_of_both": {"team": EXAMPLE, "workers": [0, 2], "jobs": [0, 1]},
        "always_work": {"team": EXAMPLE, "many": 2},
        "always_given": {"team": EXAMPLE, "many": 2},
        "worker_share": {"team": EXAMPLE, "many": 2, "worker": 0},
        "job_share": {"team": EXAMPLE, "many": 1, "job": 0},
    },
    "known": {
        "can_hold": {"team": EXAMPLE, "pairs": [(1, 0), (0, 1)]},
        "hold_paper": {"team": EXAMPLE, "pairs": [(0, 0), (0, 1)]},
        "count_with": {"team": EXAMPLE, "pairs": [(0, 1)], "many": 2},
        "nth_with": {"team": EXAMPLE, "pairs": [(0, 1)], "many": 2, "index": 1},
        "share_with": {"team": EXAMPLE, "pairs": [(0, 1)], "many": 2},
        "next_share": {"team": EXAMPLE, "pairs": [(0, 1)], "many": 2, "worker": 1, "job": 0},
        "sure_pairs": {"team": EXAMPLE, "pairs": [(1, 0), (0, 1)], "many": 2},
        "best_question": {"team": EXAMPLE, "pairs": [(0, 1)], "many": 2},
    },
    "barred": {
        "count_barred": {"team": EXAMPLE, "pairs": [(0, 1)], "barred": [(1, 0)], "many": 2},
        "barred_share": {
            "team": EXAMPLE, "pairs": [], "barred": [(0, 1), (2, 59)], "many": 2, "worker": 1, "job": 0,
        },
        "way_barred": {"team": EXAMPLE, "pairs": [(0, 1)], "barred": [(1, 0)], "many": 2},
    },
    "lessons": {
        "fewest_lessons": {"team": EXAMPLE, "many": 3},
        "taught": {"team": EXAMPLE, "many": 3},
        "shows_lessons": {"team": EXAMPLE, "many": 3, "thing": [3, 1, 2]},
        "best_lesson": {"team": EXAMPLE, "many": 2},
        "lost_by": {"team": EXAMPLE, "worker": 1},
    },
    "slips": {
        "one_level": {"team": [3, 1, 2], "counts": [1, 5, 4, 0]},
        "wrong_pairs": {"team": EXAMPLE, "pairs": [(1, 1), (0, 1), (2, 59)]},
        "fewest_out": {"team": EXAMPLE, "pairs": [(0, 0), (1, 0), (2, 1)]},
        "kept_pairs": {"team": EXAMPLE, "pairs": [(0, 0), (1, 0), (2, 1)]},
    },
    "texts": {
        "write_team": {"team": EXAMPLE},
        "read_team": {"text": "2 1 2"},
        "write_way": {"way": [1, None, 0]},
        "read_way": {"text": "1 - 0"},
        "write_pairs": {"pairs": [(1, 0), (0, 1)]},
        "read_pairs": {"text": "1:0 0:1"},
    },
    "session": {
        "session": {"rows": "hire 2\nteam\ngive 0 2"},
    },
}
ANSWERS = {
    "is_team": True, "line": [1, 0, 2], "spare_numbers": [1, 1, 0], "can_do": True, "able_counts": [3, 2],
    "others": [3, 4, 3], "counts": [1, 5, 4, 0], "greatest_size": 2, "limit_of": 2, "shows_limit": True,
    "likeliest": [1], "mean_size": (13, 10), "is_way": True, "nth_way": [1, None, 0], "way_index": 2,
    "next_way": [1, None, 0], "skips_of": 2, "skips_by_worker": [1, 1, 0], "skip_counts": [0, 0, 2, 2, 1],
    "nth_by_skips": [None, 0, 1], "skips_index": 1, "least_skips": 2, "greatest_skips": 4, "mean_skips": (14, 5),
    "are_alike": True, "parting": 0, "unlike_count": 2, "count_alike": 3, "nth_alike": [1, 1, 3], "alike_index": 2,
    "strict_team": [0, 2, 3], "is_counts": True, "spare_from": [0, 1, 1], "team_from": [0, 2, 3],
    "reason_against": ("left", 1), "shows_reason": True, "hit_counts": [0, 2, 4, 0], "hits_of": 2,
    "nth_list": [1, 0, 2], "list_index": 3, "pair_by_hits": (1, 2), "mean_hits": (5, 3),
    "can_work": True, "work_paper": 2, "shows_work_paper": True, "ways_of_workers": 2, "can_give": True,
    "give_paper": 2, "shows_give_paper": True, "ways_of_jobs": 4, "ways_of_both": 2, "always_work": [],
    "always_given": [0, 1], "worker_share": (3, 4), "job_share": (3, 5), "can_hold": True, "hold_paper": ("worker", 1),
    "count_with": 2, "nth_with": [1, None, 0], "share_with": (1, 2), "next_share": (1, 2),
    "sure_pairs": [(0, 1), (1, 0)], "best_question": (1, 0), "count_barred": 1, "barred_share": (1, 2),
    "way_barred": [1, None, 0], "fewest_lessons": 1, "taught": [2, 1, 3], "shows_lessons": True, "best_lesson": 0,
    "lost_by": [1, 4, 2], "one_level": [(0, 2), (1, 0), (2, 1)], "wrong_pairs": [0, 2], "fewest_out": 1,
    "kept_pairs": [0, 2], "write_team": "2 1 2", "read_team": [2, 1, 2], "write_way": "1 - 0",
    "read_way": [1, None, 0], "write_pairs": "1:0 0:1", "read_pairs": [(1, 0), (0, 1)], "session": "ok\n2\nRefused",
}
WRONG = {
    "other": (no_teams, InvalidTeam), "way": (no_ways, InvalidWay), "names": (no_full_lists, InvalidList),
    "counts": (no_counts, InvalidCounts), "workers": (no_workers, InvalidWorkers), "jobs": (no_jobs, InvalidJobs),
    "pairs": (no_pairs, InvalidPairs), "barred": (no_pairs, InvalidPairs),
}


def functions():
    """Rows of a function of the interface and valid arguments of its own by name."""
    for file, names in INTERFACE.items():
        module = importlib.import_module("nestboards." + file)
        for name, arguments in names.items():
            yield getattr(module, name), copy.deepcopy(arguments)


def checked_functions():
    """The same without the writers of texts, which promise nothing of values that are not valid."""
    return [row for row in functions() if row[0].__module__ != "nestboards.texts"]


class RulesTest(unittest.TestCase):
    def test_defined_in_its_file_with_its_arguments(self):
        for file, names in INTERFACE.items():
            module = importlib.import_module("nestboards." + file)
            for name, arguments in names.items():
                with self.subTest(name=name):
                    function = getattr(module, name)
                    self.assertEqual(function.__module__, module.__name__)
                    self.assertEqual(list(inspect.signature(function).parameters), list(arguments))

    def test_by_position_and_by_name(self):
        for function, arguments in functions():
            with self.subTest(name=function.__name__):
                answer = ANSWERS[function.__name__]
                self.assertEqual(function(*arguments.values()), answer)
                self.assertEqual(function(**arguments), answer)
                self.assertEqual(function(**dict(reversed(arguments.items()))), answer)
                self.assertIs(type(function(**arguments)), type(answer))

    def test_arguments_are_unchanged(self):
        for function, arguments in functions():
            kept = copy.deepcopy(arguments)
            function(**arguments)
            self.assertEqual(arguments, kept, function.__name__)

    def test_twenty_workers_are_unchanged(self):
        for function, arguments in functions():
            if list(arguments) == ["team"]:
                # Full lists are of teams without a level above twenty.
                kept = HIT_TEAMS[-1] if function.__module__ == "nestboards.hits" else STAIRS[::-1]
                team = list(kept)
                function(team)
                self.assertEqual(team, kept, function.__name__)

    def test_wrong_things_are_unchanged(self):
        for function, arguments in functions():
            if "thing" in arguments:
                thing = [[2], 1, {"a": [2]}]
                function(**{**arguments, "thing": thing})
                self.assertEqual(thing, [[2], 1, {"a": [2]}], function.__name__)

    def test_lists_are_new_ones_at_each_call(self):
        for function, arguments in functions():
            first = function(**arguments)
            if isinstance(first, list):
                answer = ANSWERS[function.__name__]
                for value in arguments.values():
                    self.assertIsNot(first, value, function.__name__)
                first.append(99)
                self.assertEqual(function(**arguments), answer, function.__name__)
                self.assertEqual(function(**arguments), answer, function.__name__)

    def test_objects_that_are_no_teams(self):
        for function, arguments in checked_functions():
            if "team" in arguments:
                for team in no_teams():
                    with self.assertRaises(InvalidTeam, msg=(function.__name__, team)):
                        function(**{**arguments, "team": team})

    def test_objects_that_are_no_others_ways_lists_or_counts(self):
        for function, arguments in checked_functions():
            for name, (things, error) in WRONG.items():
                if name in arguments:
                    for thing in things():
                        with self.assertRaises(error, msg=(function.__name__, thing)):
                            function(**{**arguments, name: thing})

    def test_wrong_objects_are_unchanged(self):
        for function, arguments in checked_functions():
            for name in WRONG:
                if name in arguments:
                    thing = [[2], 1, {"a": [2]}]
                    with self.assertRaises(NestError):
                        function(**{**arguments, name: thing})
                    self.assertEqual(thing, [[2], 1, {"a": [2]}], function.__name__)

    def test_team_decides_before_all_others(self):
        for function, arguments in checked_functions():
            if "team" in arguments:
                wrong = {name: -1 for name in arguments}
                with self.assertRaises(InvalidTeam, msg=function.__name__):
                    function(**wrong)

    def test_tests_of_things_raise_nothing(self):
        for function, arguments in checked_functions():
            if "thing" in arguments:
                for thing in plain_things():
                    answer = function(**{**arguments, "thing": thing})
                    self.assertIs(answer, False, (function.__name__, thing))


if __name__ == "__main__":
    unittest.main()
