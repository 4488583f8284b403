"""Errands, ranks and tools: what counts as one, and what is read off them."""

from ranksure.errors import NoErrand, NoErrands, NoRanks

MOST_ERRANDS = 6
LEAST_EVERY = 2
MOST_EVERY = 60
MOST_LATE = 20
MOST_PARTS = 4
MOST_LENGTH = 20
TOOLS = 4


# Python counts True and False as ints; here they are no numbers.
def is_whole(thing, least, most):
    if not isinstance(thing, int) or isinstance(thing, bool):
        return False
    return least <= thing <= most


def is_tuple(thing, fewest, most):
    return isinstance(thing, tuple) and fewest <= len(thing) <= most


def is_part(thing):
    if not is_tuple(thing, 2, 2) or not is_whole(thing[0], 1, MOST_LENGTH):
        return False
    return thing[1] is None or is_whole(thing[1], 0, TOOLS - 1)


def are_parts(thing):
    if not is_tuple(thing, 1, MOST_PARTS) or not all([is_part(part) for part in thing]):
        return False
    return thing[-1][1] is None


# The bounds of late and due are reckoned from the numbers that are looked at ahead of them.
def is_errand(thing):
    if not is_tuple(thing, 4, 4):
        return False
    every = thing[0]
    due = thing[1]
    late = thing[2]
    if not is_whole(every, LEAST_EVERY, MOST_EVERY):
        return False
    if not is_whole(late, 0, min(MOST_LATE, every - 1)):
        return False
    return is_whole(due, 1, every - late) and are_parts(thing[3])


def checked(errands):
    if not is_tuple(errands, 1, MOST_ERRANDS) or not all([is_errand(errand) for errand in errands]):
        raise NoErrands("errands are a tuple of 1 to 6 errands (every, due, late, parts)")
    return errands


# The errands are checked by the caller, whose refusal of them comes first.
def checked_ranks(errands, ranks):
    last = len(errands) - 1
    if not is_tuple(ranks, len(errands), len(errands)) or not all([is_whole(number, 0, last) for number in ranks]):
        raise NoRanks("ranks are a tuple of the numbers of all errands")
    if len(set(ranks)) < len(ranks):
        raise NoRanks("ranks have each errand's number once")
    return ranks


# The errands are checked by the caller, whose refusal of them comes first.
def checked_number(errands, number):
    if not is_whole(number, 0, len(errands) - 1):
        raise NoErrand("no errand has this number")
    return number


# The three refusals in the order in which they are named.
def check_place(errands, ranks, number):
    checked(errands)
    checked_ranks(errands, ranks)
    checked_number(errands, number)


def work_of(errand):
    return sum([part[0] for part in errand[3]])


def work(errands, number):
    checked(errands)
    checked_number(errands, number)
    return work_of(errands[number])


def has_tool(errand, tool):
    return tool in [part[1] for part in errand[3]]


def height(errands, ranks, tool):
    for place, number in enumerate(ranks):
        if has_tool(errands[number], tool):
            return place
    return None


def heights_of(errands, ranks):
    return [height(errands, ranks, tool) for tool in range(TOOLS)]


def heights(errands, ranks):
    checked(errands)
    checked_ranks(errands, ranks)
    return heights_of(errands, ranks)
