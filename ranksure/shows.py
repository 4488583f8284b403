"""Runs that show a longest answer, or that an errand is late."""

from ranksure.bounds import holdings
from ranksure.errands import check_place
from ranksure.runs import MOST_COMINGS


# The first job is as late as it can be, the others are not late at all: so each comes as soon as it can.
def soonest(errand, start):
    return [start] + [start + job * errand[0] - errand[2] for job in range(1, MOST_COMINGS)]


# The lower errand's job comes at 0, and is alone until it has done one time of the part.
def start_behind(errands, holding):
    parts = errands[holding.number][3]
    return sum([part[0] for part in parts[:holding.part]]) + 1


# The errand's first job has its answer by the comings of the first every less late times alone,
# and as many comings as there may be reach further than that, even where every is 2.
def worst_run(errands, ranks, number):
    check_place(errands, ranks, number)
    comings = [[] for errand in errands]
    start = 0
    found = [holding for holding in holdings(errands, ranks, number) if holding.times > 0]
    if len(found) > 0:
        greatest = max(found, key=lambda holding: holding.times)
        comings[greatest.number] = [0]
        start = start_behind(errands, greatest)
    for one in ranks[:ranks.index(number) + 1]:
        comings[one] = soonest(errands[one], start)
    return (comings, (number, 0))
