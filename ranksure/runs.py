"""Comings, and the runs in which one hand does the jobs that come."""

from ranksure.errands import checked, checked_ranks, heights_of, is_whole
from ranksure.errors import NoComings

MOST_COMINGS = 60
LAST_COMING = 9999


# Each moment is taken as early as can be, which leaves the most room for those behind it.
# As late is less than every, a row that does not rise has no such moments either.
def have_moments(errand, row):
    every = errand[0]
    late = errand[2]
    earliest = 0 - late
    for came in row:
        moment = max(earliest, came - late)
        if moment > came:
            return False
        earliest = moment + every
    return True


def is_row(errand, thing):
    if not isinstance(thing, list) or len(thing) > MOST_COMINGS:
        return False
    return all([is_whole(came, 0, LAST_COMING) for came in thing]) and have_moments(errand, thing)


def checked_comings(errands, comings):
    checked(errands)
    if not isinstance(comings, list) or len(comings) != len(errands):
        raise NoComings("comings are a list of one list for each errand")
    if not all([is_row(errand, row) for errand, row in zip(errands, comings)]):
        raise NoComings("an errand can not come so")
    return [list(row) for row in comings]


# The jobs of one errand in a run. Only the first that is not done can have begun,
# so what is kept of the parts is kept of it alone.
class Jobs:
    def __init__(self, number, parts, rank, row):
        self.number = number
        self.parts = parts
        self.rank = rank
        self.row = row
        self.job = 0
        self.part = 0
        self.spent = 0

    def are_done(self):
        return self.job == len(self.row)

    def is_there(self, time):
        return self.job < len(self.row) and self.row[self.job] <= time

    def held(self):
        return self.parts[self.part][1] if self.spent > 0 else None

    def wanted(self):
        return self.parts[self.part][1] if self.spent == 0 else None

    def go_on(self):
        self.spent += 1
        if self.spent == self.parts[self.part][0]:
            self.spent = 0
            self.part += 1
        if self.part == len(self.parts):
            self.part = 0
            self.job += 1


# The lesser is the higher; of one height it is the lesser for the job that holds a tool.
def height_by_high(jobs, tops):
    tool = jobs.held()
    if tool is None:
        return (jobs.rank, 1)
    return (min(jobs.rank, tops[tool]), 0)


def holder(there, tool):
    if tool is None:
        return None
    for jobs in there:
        if jobs.held() == tool:
            return jobs
    return None


# A job that waits is to begin a part, so it holds no tool, and nobody waits for it:
# what is lent is never lent on.
def lent_ranks(there):
    lent = {}
    for jobs in there:
        other = holder(there, jobs.wanted())
        if other is not None:
            lent[other.number] = min(jobs.rank, lent.get(other.number, other.rank))
    return lent


def picked(there, tops, lending):
    if lending == "high":
        return min(there, key=lambda jobs: height_by_high(jobs, tops))
    free = [jobs for jobs in there if holder(there, jobs.wanted()) is None]
    lent = lent_ranks(there) if lending == "asked" else {}
    return min(free, key=lambda jobs: lent.get(jobs.number, jobs.rank))


# The rows are not checked here, as a calendar's go on for longer than comings that are handed in.
def run_of(errands, ranks, rows, lending):
    tops = heights_of(errands, ranks)
    queues = [Jobs(number, errands[number][3], ranks.index(number), row) for number, row in enumerate(rows)]
    told = []
    while not all([jobs.are_done() for jobs in queues]):
        there = [jobs for jobs in queues if jobs.is_there(len(told))]
        if len(there) == 0:
            told.append(None)
        else:
            best = picked(there, tops, lending)
            told.append((best.number, best.job))
            best.go_on()
    return told


def run(errands, ranks, comings, lending):
    checked(errands)
    checked_ranks(errands, ranks)
    return run_of(errands, ranks, checked_comings(errands, comings), lending)


def answers_of(number, row, ends):
    return [ends[(number, job)] - came for job, came in enumerate(row)]


def answers_in(rows, told):
    ends = {}
    for time, done in enumerate(told):
        if done is not None:
            ends[done] = time + 1
    return [answers_of(number, row, ends) for number, row in enumerate(rows)]


def answers(errands, ranks, comings, lending):
    return answers_in(comings, run(errands, ranks, comings, lending))
