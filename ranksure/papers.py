"""Papers that show something of errands, and whether they do."""

from ranksure.bounds import hold_by_high, is_in_time, need
from ranksure.dealing import as_lowest
from ranksure.errands import check_place, checked, is_tuple, is_whole
from ranksure.errors import NoComings
from ranksure.runs import answers, checked_comings


def is_bound(errands, ranks, number, time):
    check_place(errands, ranks, number)
    if not is_whole(time, 1, errands[number][0] - errands[number][2]):
        return False
    return need(errands, ranks, number, hold_by_high(errands, ranks, number), time) <= time


def can_be(errands, comings):
    try:
        checked_comings(errands, comings)
    except NoComings:
        return False
    return True


def is_job_of(thing, number, row):
    if not is_tuple(thing, 2, 2) or not is_whole(thing[0], number, number):
        return False
    return is_whole(thing[1], 0, len(row) - 1)


def is_late(errands, ranks, number, thing):
    check_place(errands, ranks, number)
    if not is_tuple(thing, 2, 2) or not can_be(errands, thing[0]):
        return False
    job = thing[1]
    if not is_job_of(job, number, thing[0][number]):
        return False
    return answers(errands, ranks, thing[0], "high")[number][job[1]] > errands[number][1]


def are_numbers(errands, thing):
    if not isinstance(thing, list) or len(thing) == 0:
        return False
    return all([is_whole(one, 0, len(errands) - 1) for one in thing]) and len(set(thing)) == len(thing)


def is_never(errands, thing):
    checked(errands)
    if not are_numbers(errands, thing):
        return False
    return not any([is_in_time(errands, as_lowest(errands, thing, number), number) for number in thing])
