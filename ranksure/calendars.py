"""Calendars: errands whose moments are known, and just every apart."""

from ranksure.errands import checked, checked_ranks, is_tuple, is_whole, work_of
from ranksure.errors import NoComings, TooLong
from ranksure.runs import answers_in, run_of

LAST_FIRST = 999
MOST_ROUND = 2000

# Once all have begun to come, what is left to do at a time is the same each round from the second round on,
# as works are no more than the times of a round; and once in a round nothing is left. From there on all comes
# again, so by the end of the third round each job has been seen.
ROUNDS_SEEN = 3


def least_multiple(number, other):
    multiple = number
    while multiple % other != 0:
        multiple += number
    return multiple


def round_of(errands):
    checked(errands)
    times = 1
    for errand in errands:
        times = least_multiple(times, errand[0])
    if times > MOST_ROUND:
        raise TooLong("the round is beyond 2000")
    return times


# The errands are checked by the caller, whose refusal of them comes first.
def checked_calendar(errands, calendar):
    many = len(errands)
    if not is_tuple(calendar, many, many) or not all([is_whole(first, 0, LAST_FIRST) for first in calendar]):
        raise NoComings("a calendar is a tuple of a number from 0 to 999 for each errand")
    return calendar


def works_of_round(errands, times):
    return sum([work_of(errand) * (times // errand[0]) for errand in errands])


def by_calendar(errands, ranks, calendar):
    checked(errands)
    checked_ranks(errands, ranks)
    checked_calendar(errands, calendar)
    times = round_of(errands)
    if works_of_round(errands, times) > times:
        return None
    end = max(calendar) + ROUNDS_SEEN * times
    rows = [list(range(first, end, errand[0])) for errand, first in zip(errands, calendar)]
    told = answers_in(rows, run_of(errands, ranks, rows, "high"))
    return [max(row) for row in told]
