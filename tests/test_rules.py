"""Promise 2 for every function: names, wrong teams, new lists, unchanged arguments."""

import copy
import importlib
import inspect
import unittest

from nestboards.errors import InvalidTeam
from tests.helper import EXAMPLE, STAIRS, no_teams, plain_things

# The functions by their files, each with arguments that are valid.
INTERFACE = {
    "teams": {
        "is_team": {"thing": EXAMPLE},
        "line": {"team": EXAMPLE},
        "spare_numbers": {"team": EXAMPLE},
        "can_do": {"team": EXAMPLE, "worker": 1, "job": 0},
        "able_counts": {"team": EXAMPLE},
        "others": {"team": EXAMPLE, "level": 5},
    },
    "counting": {
        "counts": {"team": EXAMPLE},
        "greatest_size": {"team": EXAMPLE},
        "limit_of": {"team": EXAMPLE},
        "shows_limit": {"team": EXAMPLE, "thing": 2},
        "likeliest": {"team": EXAMPLE},
        "mean_size": {"team": EXAMPLE},
    },
    "ways": {
        "is_way": {"team": EXAMPLE, "thing": [0, None, 1]},
        "nth_way": {"team": EXAMPLE, "many": 2, "index": 3},
        "way_index": {"team": EXAMPLE, "way": [0, None, 1]},
        "next_way": {"team": EXAMPLE, "way": [0, None, 1]},
    },
}
ANSWERS = {
    "is_team": True, "line": [1, 0, 2], "spare_numbers": [1, 1, 0], "can_do": True, "able_counts": [3, 2],
    "others": [3, 4, 3], "counts": [1, 5, 4, 0], "greatest_size": 2, "limit_of": 2, "shows_limit": True,
    "likeliest": [1], "mean_size": (13, 10), "is_way": True, "nth_way": [1, None, 0], "way_index": 2,
    "next_way": [1, None, 0],
}


def functions():
    """Rows of a function of the interface and valid arguments of its own by name."""
    for file, names in INTERFACE.items():
        module = importlib.import_module("nestboards." + file)
        for name, arguments in names.items():
            yield getattr(module, name), copy.deepcopy(arguments)


class RulesTest(unittest.TestCase):
    def test_defined_in_its_file_with_its_arguments(self):
        for file, names in INTERFACE.items():
            module = importlib.import_module("nestboards." + file)
            for name, arguments in names.items():
                with self.subTest(name=name):
                    function = getattr(module, name)
                    self.assertEqual(function.__module__, module.__name__)
                    self.assertEqual(list(inspect.signature(function).parameters), list(arguments))

    def test_by_position_and_by_name(self):
        for function, arguments in functions():
            with self.subTest(name=function.__name__):
                answer = ANSWERS[function.__name__]
                self.assertEqual(function(*arguments.values()), answer)
                self.assertEqual(function(**arguments), answer)
                self.assertEqual(function(**dict(reversed(arguments.items()))), answer)
                self.assertIs(type(function(**arguments)), type(answer))

    def test_arguments_are_unchanged(self):
        for function, arguments in functions():
            kept = copy.deepcopy(arguments)
            function(**arguments)
            self.assertEqual(arguments, kept, function.__name__)

    def test_twenty_workers_are_unchanged(self):
        for function, arguments in functions():
            if list(arguments) == ["team"]:
                team = STAIRS[::-1]
                function(team)
                self.assertEqual(team, STAIRS[::-1], function.__name__)

    def test_wrong_things_are_unchanged(self):
        for function, arguments in functions():
            if "thing" in arguments:
                thing = [[2], 1, {"a": [2]}]
                function(**{**arguments, "thing": thing})
                self.assertEqual(thing, [[2], 1, {"a": [2]}], function.__name__)

    def test_lists_are_new_ones_at_each_call(self):
        for function, arguments in functions():
            first = function(**arguments)
            if isinstance(first, list):
                answer = ANSWERS[function.__name__]
                for value in arguments.values():
                    self.assertIsNot(first, value, function.__name__)
                first.append(99)
                self.assertEqual(function(**arguments), answer, function.__name__)
                self.assertEqual(function(**arguments), answer, function.__name__)

    def test_objects_that_are_no_teams(self):
        for function, arguments in functions():
            if "team" in arguments:
                for team in no_teams():
                    with self.assertRaises(InvalidTeam, msg=(function.__name__, team)):
                        function(**{**arguments, "team": team})

    def test_team_decides_before_all_others(self):
        for function, arguments in functions():
            if "team" in arguments:
                wrong = {name: -1 for name in arguments}
                with self.assertRaises(InvalidTeam, msg=function.__name__):
                    function(**wrong)

    def test_tests_of_things_raise_nothing(self):
        for function, arguments in functions():
            if "thing" in arguments:
                for thing in plain_things():
                    answer = function(**{**arguments, "thing": thing})
                    self.assertIs(answer, False, (function.__name__, thing))


if __name__ == "__main__":
    unittest.main()
