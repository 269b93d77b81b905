"""Sessions: lines that tell a bench what to do or ask about it, and the answers."""

from nestboards.alike import count_alike, strict_team
from nestboards.counting import counts, greatest_size
from nestboards.errors import NestError
from nestboards.known import next_share
from nestboards.live import Bench
from nestboards.skips import skips_of
from nestboards.texts import NOTHING, number_of, write_team, write_way
from nestboards.ways import nth_way

MOST_DIGITS = 31
DONE = "ok"
UNKNOWN = "?"


def hire(bench, numbers):
    bench.hire(numbers[0])
    return DONE


def learn(bench, numbers):
    bench.learn(numbers[0])
    return DONE


def give(bench, numbers):
    bench.give(numbers[0], numbers[1])
    return DONE


def take(bench, numbers):
    bench.take_back(numbers[0])
    return DONE


def undo(bench, numbers):
    bench.undo()
    return DONE


def back(bench, numbers):
    bench.undo_to(numbers[0])
    return DONE


def tell_team(bench, numbers):
    return write_team(bench.team) if bench.team else NOTHING


def tell_way(bench, numbers):
    return write_way(bench.way) if bench.way else NOTHING


def tell_counts(bench, numbers):
    return write_numbers(counts(bench.team))


def tell_rest(bench, numbers):
    return write_numbers(bench.rest_counts())


def write_numbers(numbers):
    return " ".join([str(number) for number in numbers])


def tell_size(bench, numbers):
    return str(greatest_size(bench.team))


def tell_alike(bench, numbers):
    return str(count_alike(bench.team))


def tell_strict(bench, numbers):
    return write_team(strict_team(bench.team))


def tell_list(bench, numbers):
    return write_way(nth_way(bench.team, numbers[0], numbers[1]))


def tell_skips(bench, numbers):
    return str(skips_of(bench.team, bench.way))


def tell_share(bench, numbers):
    pairs = [(worker, job) for worker, job in enumerate(bench.way) if job is not None]
    top, bottom = next_share(bench.team, pairs, numbers[0], numbers[1], numbers[2])
    return f"{top}/{bottom}"


# By the first word of a line: how many numbers follow, and what answers it.
NUMBERS = {
    "hire": 1, "learn": 1, "give": 2, "take": 1, "undo": 0, "back": 1, "team": 0, "way": 0, "counts": 0, "rest": 0,
    "size": 0, "alike": 0, "strict": 0, "list": 2, "skips": 0, "share": 3,
}
ANSWERS = {
    "hire": hire, "learn": learn, "give": give, "take": take, "undo": undo, "back": back, "team": tell_team,
    "way": tell_way, "counts": tell_counts, "rest": tell_rest, "size": tell_size, "alike": tell_alike,
    "strict": tell_strict, "list": tell_list, "skips": tell_skips, "share": tell_share,
}


def session(rows):
    """The answers to the lines of a string, one line for each."""
    bench = Bench()
    answers = []
    for row in rows.split("\n"):
        if row == "new":
            bench = Bench()
            answers.append(DONE)
        else:
            answers.append(answer_to(bench, row))
    return "\n".join(answers)


def answer_to(bench, row):
    """The answer to one line, which may change the bench."""
    words = row.split(" ")
    numbers = [number_of(word, MOST_DIGITS) for word in words[1:]]
    if NUMBERS.get(words[0]) != len(numbers) or None in numbers:
        return UNKNOWN
    answer = ANSWERS[words[0]]
    try:
        return answer(bench, numbers)
    except NestError as error:
        return type(error).__name__
