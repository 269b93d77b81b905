"""Benches: a team and a way that are told bit by bit."""

from nestboards.common import check_index, check_job, check_worker, is_within
from nestboards.errors import InvalidNumber, InvalidTeam, NothingToUndo, Refused
from nestboards.sets import counts_left
from nestboards.teams import MOST_WORKERS

GREATEST_LEVEL = 40


class Bench:
    """A team and a way, at first nobody. Calls that change it can be undone."""

    def __init__(self):
        # These lists are replaced, never changed, so that twins may share them.
        self._levels = []
        self._jobs = []
        self._past = []

    def __len__(self):
        return len(self._past)

    @property
    def team(self):
        """The list of levels."""
        return list(self._levels)

    @property
    def way(self):
        """The list of the jobs, None for who is idle."""
        return list(self._jobs)

    def _change(self, levels, jobs):
        self._past = self._past + [(self._levels, self._jobs)]
        self._levels = levels
        self._jobs = jobs

    def _change_job(self, worker, job):
        self._change(self._levels, self._jobs[:worker] + [job] + self._jobs[worker + 1:])

    def hire(self, level):
        """A new worker behind all others, idle."""
        if not is_within(level, 0, GREATEST_LEVEL):
            raise InvalidNumber(f"a level of a bench is an integer from 0 to {GREATEST_LEVEL}")
        if len(self._levels) == MOST_WORKERS:
            raise InvalidTeam(f"a bench has at most {MOST_WORKERS} workers")
        self._change(self._levels + [level], self._jobs + [None])

    def learn(self, worker):
        """One level more."""
        check_worker(self._levels, worker)
        level = self._levels[worker] + 1
        if level > GREATEST_LEVEL:
            raise InvalidNumber(f"the worker has the greatest level of a bench, {GREATEST_LEVEL}")
        self._change(self._levels[:worker] + [level] + self._levels[worker + 1:], self._jobs)

    def give(self, worker, job):
        """The worker has the job."""
        check_worker(self._levels, worker)
        check_job(job)
        if self._jobs[worker] is not None:
            raise Refused("busy")
        if job >= self._levels[worker]:
            raise Refused("unable")
        if job in self._jobs:
            raise Refused("taken")
        self._change_job(worker, job)

    def take_back(self, worker):
        """The job of the worker is free again."""
        check_worker(self._levels, worker)
        if self._jobs[worker] is None:
            raise Refused("idle")
        self._change_job(worker, None)

    def undo(self):
        """Undoes the last call that changed the bench and still holds."""
        if not self._past:
            raise NothingToUndo("no call is left to undo")
        self.undo_to(len(self._past) - 1)

    def mark(self):
        """How many calls that changed the bench hold."""
        return len(self._past)

    def undo_to(self, index):
        """Undoes calls until so many are left."""
        check_index(index, len(self._past) + 1)
        if index < len(self._past):
            self._levels, self._jobs = self._past[index]
            self._past = self._past[:index]

    def twin(self):
        """An independent copy, which can undo the same calls."""
        other = Bench()
        other._levels = self._levels
        other._jobs = self._jobs
        other._past = self._past
        return other

    def rest_counts(self):
        """The counts of the idle workers by the jobs that are free."""
        idle = [level for level, job in zip(self._levels, self._jobs) if job is None]
        return counts_left(idle, [job for job in self._jobs if job is not None])
