"""Promises 55 and 56: benches."""

import inspect
import unittest
from itertools import product
from random import Random

from nestboards.errors import (
    InvalidIndex, InvalidJob, InvalidNumber, InvalidTeam, InvalidWorker, NestError, NothingToUndo, Refused,
)
from nestboards.live import Bench
from nestboards.teams import is_team
from tests.helper import NO_INDICES, has_twice, no_integers

CALLS = ("hire", "learn", "give", "take_back")
INTERFACE = {
    "hire": ["level"], "learn": ["worker"], "give": ["worker", "job"], "take_back": ["worker"], "undo": [],
    "mark": [], "undo_to": ["index"], "twin": [], "rest_counts": [],
}
NO_NUMBERS = [-1, -2, -(10 ** 30), 10 ** 30, True, False]


def told(bench):
    """All that a bench tells of itself."""
    return bench.team, bench.way, len(bench), bench.mark(), bench.rest_counts()


def bench_of(team, way=()):
    """A bench with these levels and jobs."""
    bench = Bench()
    for level in team:
        bench.hire(level)
    for worker, job in enumerate(way):
        if job is not None:
            bench.give(worker, job)
    return bench


def rest_by_hand(team, way):
    """The idle workers with the free jobs, each way made."""
    choices = [
        [None] + [job for job in range(level) if job not in way] for level, own in zip(team, way) if own is None
    ]
    sizes = [sum(job is not None for job in row) for row in product(*choices) if not has_twice(row)]
    return [sizes.count(size) for size in range(len(choices) + 1)]


def rest_by_sums(team, way):
    """The same for great teams: worker after worker by how many free jobs there are."""
    free = sorted(len([job for job in range(level) if job not in way]) for level, own in zip(team, way) if own is None)
    found = [1] + [0] * len(free)
    for jobs in free:
        for size in range(len(free), 0, -1):
            found[size] += found[size - 1] * max(0, jobs - size + 1)
    return found


class Record:
    """A plain record: the calls that hold, and what they come to when told again from the start."""

    def __init__(self, calls=()):
        self.calls = list(calls)

    def state(self):
        levels, jobs = [], []
        for name, *numbers in self.calls:
            if name == "hire":
                levels.append(numbers[0])
                jobs.append(None)
            if name == "learn":
                levels[numbers[0]] += 1
            if name == "give":
                jobs[numbers[0]] = numbers[1]
            if name == "take_back":
                jobs[numbers[0]] = None
        return levels, jobs

    def wrong(self, name, *numbers):
        """The error that the call raises, None if it raises none."""
        levels, jobs = self.state()
        if name == "hire":
            if not 0 <= numbers[0] <= 40:
                return InvalidNumber
            return InvalidTeam if len(levels) == 20 else None
        if name == "undo":
            return None if self.calls else NothingToUndo
        if name == "undo_to":
            return None if 0 <= numbers[0] <= len(self.calls) else InvalidIndex
        worker = numbers[0]
        if not 0 <= worker < len(levels):
            return InvalidWorker
        if name == "learn":
            return InvalidNumber if levels[worker] == 40 else None
        if name == "take_back":
            return "idle" if jobs[worker] is None else None
        return self.wrong_gift(levels, jobs, worker, numbers[1])

    def wrong_gift(self, levels, jobs, worker, job):
        if not 0 <= job < 60:
            return InvalidJob
        if jobs[worker] is not None:
            return "busy"
        if job >= levels[worker]:
            return "unable"
        return "taken" if job in jobs else None

    def call(self, name, *numbers):
        if name == "undo":
            self.calls.pop()
        elif name == "undo_to":
            self.calls = self.calls[:numbers[0]]
        else:
            self.calls.append((name, *numbers))

    def told(self):
        levels, jobs = self.state()
        is_small = len(levels) < 5 and max(levels, default=0) < 6
        rest = (rest_by_hand if is_small else rest_by_sums)(levels, jobs)
        return levels, jobs, len(self.calls), len(self.calls), rest


def drawn_call(drawn, record, greatest, most):
    """A call that often goes, and sometimes is refused or wrong."""
    levels, _ = record.state()
    worker = drawn.randrange(-1 if drawn.random() < 0.05 else 0, len(levels) + 1)
    kind = drawn.random()
    if kind < 0.25 and (len(levels) < most or drawn.random() < 0.1):
        return "hire", drawn.choice([drawn.randrange(greatest + 1)] * 12 + [-1, 40, 41])
    if kind < 0.4:
        return "learn", worker
    if kind < 0.7:
        return "give", worker, drawn.choice([drawn.randrange(greatest + 1)] * 12 + [0, 59, 60, -1])
    if kind < 0.82:
        return "take_back", worker
    if kind < 0.96:
        return ("undo",)
    return "undo_to", drawn.randrange(max(0, len(record.calls) - 4), len(record.calls) + 2)


class ExampleTest(unittest.TestCase):
    def test_nobody(self):
        bench = Bench()
        self.assertEqual(told(bench), ([], [], 0, 0, [1]))

    def test_calls_one_by_one(self):
        bench = Bench()
        self.assertIs(bench.hire(2), None)
        self.assertEqual(told(bench), ([2], [None], 1, 1, [1, 2]))
        self.assertIs(bench.hire(level=1), None)
        self.assertIs(bench.hire(2), None)
        self.assertEqual(told(bench), ([2, 1, 2], [None] * 3, 3, 3, [1, 5, 4, 0]))
        self.assertIs(bench.give(2, 0), None)
        self.assertEqual(told(bench), ([2, 1, 2], [None, None, 0], 4, 4, [1, 1, 0]))
        self.assertIs(bench.learn(worker=1), None)
        self.assertEqual(told(bench), ([2, 2, 2], [None, None, 0], 5, 5, [1, 2, 0]))
        self.assertIs(bench.give(job=1, worker=1), None)
        self.assertEqual(told(bench), ([2, 2, 2], [None, 1, 0], 6, 6, [1, 0]))
        self.assertIs(bench.take_back(worker=2), None)
        self.assertEqual(told(bench), ([2, 2, 2], [None, 1, None], 7, 7, [1, 2, 0]))
        self.assertIs(bench.undo(), None)
        self.assertEqual(told(bench), ([2, 2, 2], [None, 1, 0], 6, 6, [1, 0]))
        self.assertIs(bench.undo_to(index=4), None)
        self.assertEqual(told(bench), ([2, 1, 2], [None, None, 0], 4, 4, [1, 1, 0]))
        self.assertIs(bench.undo_to(4), None)
        self.assertEqual(len(bench), 4)
        self.assertIs(bench.undo_to(0), None)
        self.assertEqual(told(bench), ([], [], 0, 0, [1]))

    def test_each_word(self):
        bench = bench_of([2, 0, 2], [0, None, None])
        for call, word in (
            ((0, 0), "busy"), ((0, 1), "busy"), ((0, 59), "busy"), ((1, 0), "unable"), ((2, 2), "unable"),
            ((2, 59), "unable"), ((2, 0), "taken"),
        ):
            self.check_refused(bench, word, bench.give, *call)
        self.check_refused(bench, "idle", bench.take_back, 1)
        # Who cannot do the job is unable, also where another one has it.
        self.check_refused(bench, "unable", bench.give, 1, 0)

    def check_refused(self, bench, word, call, *numbers):
        before = told(bench)
        with self.assertRaises(Refused) as caught:
            call(*numbers)
        self.assertEqual(caught.exception.word, word)
        self.assertEqual(told(bench), before)

    def test_known_rests(self):
        self.assertEqual(bench_of([40] * 20).rest_counts()[:3], [1, 800, 40 * 39 * 190])
        self.assertEqual(bench_of([40] * 20, range(20)).rest_counts(), [1])
        self.assertEqual(bench_of([40] * 20, list(range(19)) + [None]).rest_counts(), [1, 21])
        self.assertEqual(bench_of([3, 3, 3], [2, None, None]).rest_counts(), [1, 4, 2])
        self.assertEqual(bench_of([0] * 20).rest_counts(), [1] + [0] * 20)


class DrawnCallsTest(unittest.TestCase):
    """Promise 55: many calls against a plain record."""

    def test_small_benches(self):
        for seed in range(40):
            self.check_calls(seed, 120, 5, 4)

    def test_greater_benches(self):
        for seed in range(12):
            self.check_calls(1000 + seed, 180, 40, 20)

    def check_calls(self, seed, often, greatest, most):
        drawn = Random(seed)
        bench, record, twins = Bench(), Record(), []
        for step in range(often):
            self.check_call(bench, record, *drawn_call(drawn, record, greatest, most))
            if step in (often // 3, often // 2):
                twins.append((bench.twin(), Record(record.calls)))
        for twin, other in twins:
            self.assertEqual(told(twin), other.told())
            for step in range(often // 4):
                self.check_call(twin, other, *drawn_call(drawn, other, greatest, most))
        self.assertEqual(told(bench), record.told())
        while record.calls:
            self.check_call(bench, record, "undo")
        for twin, other in twins:
            self.assertEqual(told(twin), other.told())
            self.check_call(twin, other, "undo_to", 0)

    def check_call(self, bench, record, name, *numbers):
        wrong = record.wrong(name, *numbers)
        call = getattr(bench, name)
        if wrong is None:
            self.assertIs(call(*numbers), None)
            record.call(name, *numbers)
        elif isinstance(wrong, str):
            with self.assertRaises(Refused, msg=(record.calls, name, numbers)) as caught:
                call(*numbers)
            self.assertEqual(caught.exception.word, wrong)
        else:
            with self.assertRaises(wrong, msg=(record.calls, name, numbers)):
                call(*numbers)
        self.assertEqual(told(bench), record.told(), (record.calls, name, numbers))
        self.assertTrue(bench.team == [] or is_team(bench.team))

    def test_the_calls_that_are_drawn(self):
        # All kinds of them are among the drawn ones, those that go and those that do not.
        seen = set()
        for seed in range(40):
            drawn, record = Random(seed), Record()
            for _ in range(120):
                call = drawn_call(drawn, record, 5, 4)
                wrong = record.wrong(*call)
                seen.add((call[0], wrong))
                if wrong is None:
                    record.call(*call)
        kinds = [(name, None) for name in CALLS] + [("give", word) for word in ("busy", "unable", "taken", InvalidJob)]
        kinds += [("take_back", "idle"), ("undo", NothingToUndo), ("undo_to", InvalidIndex), ("hire", InvalidNumber)]
        for kind in kinds + [("learn", InvalidWorker), ("give", InvalidWorker), ("take_back", InvalidWorker)]:
            self.assertIn(kind, seen)


class TwinsTest(unittest.TestCase):
    def test_twins_go_their_own_way(self):
        bench = bench_of([2, 1, 2], [None, 0])
        twin = bench.twin()
        self.assertIsInstance(twin, Bench)
        self.assertIsNot(twin, bench)
        before = told(bench)
        self.assertEqual(told(twin), before)
        twin.give(0, 1)
        twin.learn(2)
        self.assertEqual(told(bench), before)
        bench.take_back(1)
        bench.hire(9)
        self.assertEqual((twin.team, twin.way), ([2, 1, 3], [1, 0, None]))
        self.assertEqual((bench.team, bench.way), ([2, 1, 2, 9], [None] * 4))
        bench.undo_to(0)
        self.assertEqual((len(bench), len(twin)), (0, 6))
        for _ in range(6):
            twin.undo()
        self.assertEqual(told(twin), ([], [], 0, 0, [1]))
        with self.assertRaises(NothingToUndo):
            twin.undo()

    def test_a_twin_of_nobody_and_of_a_twin(self):
        first = Bench()
        second = first.twin()
        third = second.twin()
        third.hire(1)
        second.hire(2)
        self.assertEqual([bench.team for bench in (first, second, third)], [[], [2], [1]])

    def test_compared_by_identity(self):
        bench = bench_of([2, 1])
        twin = bench.twin()
        self.assertTrue(bench == bench and bench != twin and Bench() != Bench())
        self.assertIn(bench, [twin, bench])
        self.assertNotIn(bench, [twin])
        self.assertEqual(len({bench, twin, Bench()}), 3)


class RulesTest(unittest.TestCase):
    def test_methods_stand_in_the_class_with_their_arguments(self):
        self.assertEqual(Bench.__module__, "nestboards.live")
        for name, arguments in INTERFACE.items():
            self.assertIn(name, Bench.__dict__)
            self.assertEqual(list(inspect.signature(getattr(Bench, name)).parameters), ["self"] + arguments)
        for name in ("team", "way"):
            self.assertIsInstance(Bench.__dict__[name], property)
        self.assertIn("__len__", Bench.__dict__)
        self.assertNotIn("__eq__", Bench.__dict__)
        self.assertEqual(list(inspect.signature(Bench).parameters), [])

    def test_lists_are_new(self):
        bench = bench_of([2, 1, 2], [1])
        for _ in range(2):
            self.assertIsNot(bench.team, bench.team)
            self.assertIsNot(bench.way, bench.way)
            bench.team.append(5)
            bench.way[0] = None
            bench.rest_counts().clear()
            team, way = bench.team, bench.way
            team[0], way[1] = 9, 0
            self.assertEqual(told(bench), ([2, 1, 2], [1, None, None], 4, 4, [1, 2, 0]))
            self.assertEqual((type(bench.team), type(bench.way), type(bench.rest_counts())), (list, list, list))

    def test_lists_told_before_stay(self):
        bench = bench_of([2, 1])
        team, way = bench.team, bench.way
        bench.learn(0)
        bench.give(0, 2)
        self.assertEqual((team, way), ([2, 1], [None, None]))

    def test_properties_are_not_set(self):
        bench = bench_of([2, 1])
        for name in ("team", "way"):
            with self.assertRaises(AttributeError):
                setattr(bench, name, [])


class ErrorsTest(unittest.TestCase):
    """Promise 56."""

    def check(self, error, bench, name, *numbers):
        before = told(bench)
        with self.assertRaises(error, msg=(name, numbers)) as caught:
            getattr(bench, name)(*numbers)
        self.assertIs(type(caught.exception), error)
        self.assertEqual(told(bench), before)

    def test_wrong_numbers(self):
        bench = bench_of([2, 1, 2], [0, None, 1])
        for number in NO_NUMBERS + [41, 60, 10 ** 31 - 1]:
            self.check(InvalidNumber, bench, "hire", number)
        for number in NO_NUMBERS + [3, 20]:
            self.check(InvalidWorker, bench, "learn", number)
            self.check(InvalidWorker, bench, "take_back", number)
            self.check(InvalidWorker, bench, "give", number, 0)
        for number in NO_NUMBERS + [60]:
            self.check(InvalidJob, bench, "give", 1, number)
        for number in NO_INDICES + [6]:
            self.check(InvalidIndex, bench, "undo_to", number)

    def test_things_that_are_no_integers(self):
        bench = bench_of([2, 1, 2], [0])
        for thing in no_integers():
            self.check(InvalidNumber, bench, "hire", thing)
            self.check(InvalidWorker, bench, "learn", thing)
            self.check(InvalidWorker, bench, "take_back", thing)
            self.check(InvalidWorker, bench, "give", thing, 0)
            self.check(InvalidJob, bench, "give", 0, thing)
            self.check(InvalidIndex, bench, "undo_to", thing)

    def test_nobody(self):
        bench = Bench()
        for name in ("learn", "take_back"):
            self.check(InvalidWorker, bench, name, 0)
        self.check(InvalidWorker, bench, "give", 0, 0)
        self.check(NothingToUndo, bench, "undo")
        self.check(InvalidIndex, bench, "undo_to", 1)
        self.assertIs(bench.undo_to(0), None)

    def test_first_wrong_argument_ahead_of_a_refusal(self):
        bench = bench_of([2, 0, 2], [0])
        self.check(InvalidWorker, bench, "give", 3, 60)
        # Worker 0 is busy, but a wrong job comes first.
        self.check(InvalidJob, bench, "give", 0, 60)
        self.check(InvalidJob, bench, "give", 1, -1)
        for error in (InvalidWorker, InvalidJob, InvalidNumber, Refused, NothingToUndo):
            self.assertTrue(issubclass(error, NestError))

    def test_a_21st_worker(self):
        bench = bench_of([40] * 20)
        self.check(InvalidNumber, bench, "hire", 41)
        self.check(InvalidNumber, bench, "hire", -1)
        for level in (0, 1, 40):
            self.check(InvalidTeam, bench, "hire", level)
        bench.undo()
        self.assertIs(bench.hire(0), None)
        self.assertEqual(len(bench), 20)

    def test_a_level_of_40(self):
        bench = bench_of([39, 40])
        self.check(InvalidNumber, bench, "learn", 1)
        self.assertIs(bench.learn(0), None)
        self.check(InvalidNumber, bench, "learn", 0)
        self.assertEqual(bench.team, [40, 40])
        self.assertIs(bench.give(0, 39), None)
        self.check(Refused, bench, "give", 1, 40)

    def test_the_range_of_undo_to(self):
        bench = bench_of([1, 2, 3])
        for index in (-1, 4, 10 ** 30):
            self.check(InvalidIndex, bench, "undo_to", index)
        for index in (3, 2, 2, 0, 0):
            self.assertIs(bench.undo_to(index), None)
            self.assertEqual((len(bench), bench.mark()), (index, index))
            self.check(InvalidIndex, bench, "undo_to", index + 1)

    def test_some_hundred_and_sixty_calls_undone(self):
        bench, record = Bench(), Record()
        for worker in range(20):
            for call in (("hire", worker), ("learn", worker), ("give", worker, worker), ("learn", worker)):
                getattr(bench, call[0])(*call[1:])
                record.call(*call)
            for call in (("take_back", worker), ("learn", worker), ("give", worker, worker), ("learn", worker)):
                getattr(bench, call[0])(*call[1:])
                record.call(*call)
        self.assertEqual((len(bench), told(bench)), (160, record.told()))
        for left in range(159, -1, -1):
            bench.undo()
            record.call("undo")
            self.assertEqual(len(bench), left)
            if left % 7 == 0:
                self.assertEqual(told(bench), record.told())
        self.check(NothingToUndo, bench, "undo")


if __name__ == "__main__":
    unittest.main()
