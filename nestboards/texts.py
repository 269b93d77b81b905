"""Texts of teams, ways and pairs: words with single blanks between."""

from nestboards.common import GREATEST_JOB, is_within
from nestboards.errors import InvalidText
from nestboards.known import MOST_PAIRS
from nestboards.teams import MOST_WORKERS, is_team

DIGITS = "0123456789"
NOTHING = "-"


def number_of(word, digits):
    """The number that a word of at most so many digits tells, None if it tells none."""
    if not 1 <= len(word) <= digits or not all([sign in DIGITS for sign in word]):
        return None
    if word[0] == "0" and word != "0":
        return None
    return int(word)


def number_to(word, greatest):
    """The same for numbers of one or two digits up to the greatest one."""
    number = number_of(word, 2)
    return number if is_within(number, 0, greatest) else None


def write_team(team):
    return " ".join([str(level) for level in team])


def read_team(text):
    """The levels that a text tells."""
    levels = []
    for place, word in enumerate(text.split(" ")):
        level = number_to(word, GREATEST_JOB)
        if level is None or place == MOST_WORKERS:
            raise InvalidText(place)
        levels.append(level)
    if not is_team(levels):
        raise InvalidText(len(levels))
    return levels


def write_way(way):
    return " ".join([NOTHING if job is None else str(job) for job in way])


def read_way(text):
    """The jobs that a text tells, None for the workers without one."""
    way = []
    for place, word in enumerate(text.split(" ")):
        job = number_to(word, GREATEST_JOB)
        is_job = job is not None and job not in way
        if not (is_job or word == NOTHING) or place == MOST_WORKERS:
            raise InvalidText(place)
        way.append(job)
    return way


def write_pairs(pairs):
    return " ".join([f"{worker}:{job}" for worker, job in pairs]) if pairs else NOTHING


def read_pairs(text):
    """The pairs that a text tells, in its sequence."""
    words = text.split(" ")
    if words[0] == NOTHING:
        # It stands alone for no pairs: what comes behind it cannot stand there.
        if len(words) > 1:
            raise InvalidText(1)
        return []
    pairs = []
    for place, word in enumerate(words):
        pair = pair_of(word)
        if pair is None or pair in pairs or place == MOST_PAIRS:
            raise InvalidText(place)
        pairs.append(pair)
    return pairs


def pair_of(word):
    """The pair that a word tells, None if it tells none."""
    parts = word.split(":")
    if len(parts) != 2:
        return None
    worker = number_to(parts[0], MOST_WORKERS - 1)
    job = number_to(parts[1], GREATEST_JOB)
    return None if worker is None or job is None else (worker, job)
