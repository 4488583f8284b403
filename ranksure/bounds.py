"""Bounds that hold however errands come: holds, longest answers with their levels, and the longest stretch."""

from ranksure.errands import check_place, checked, checked_ranks, heights_of, work_of

LONGEST_STRETCH = 9999


# A part of a lower errand that can keep an errand waiting. It was begun ahead of the errand's coming,
# so one time of its length is over by then.
class Holding:
    def __init__(self, number, part, tool, times):
        self.number = number
        self.part = part
        self.tool = tool
        self.times = times


def holdings(errands, ranks, number):
    place = ranks.index(number)
    tops = heights_of(errands, ranks)
    found = []
    for lower in ranks[place + 1:]:
        for part, pair in enumerate(errands[lower][3]):
            if pair[1] is not None and tops[pair[1]] <= place:
                found.append(Holding(lower, part, pair[1], pair[0] - 1))
    return found


def hold_by_high(errands, ranks, number):
    return max([holding.times for holding in holdings(errands, ranks, number)], default=0)


def sum_of_greatest(pairs):
    greatest = {}
    for key, times in pairs:
        greatest[key] = max(times, greatest.get(key, 0))
    return sum(greatest.values())


def hold_by_asked(errands, ranks, number):
    found = holdings(errands, ranks, number)
    by_errand = sum_of_greatest([(holding.number, holding.times) for holding in found])
    by_tool = sum_of_greatest([(holding.tool, holding.times) for holding in found])
    return min(by_errand, by_tool)


def rounded_up(times, every):
    return (times + every - 1) // every


def need(errands, ranks, number, held_up, times):
    total = held_up + work_of(errands[number])
    for higher in ranks[:ranks.index(number)]:
        errand = errands[higher]
        total += work_of(errand) * rounded_up(times + errand[2], errand[0])
    return total


# Needs never fall as the times grow: no t between a level and its need is as much as its own need,
# so the first level that is its own need is the least such t.
def levels_by(errands, ranks, number, held_up):
    most = errands[number][0] - errands[number][2]
    found = []
    level = need(errands, ranks, number, held_up, 1)
    while level <= most:
        found.append(level)
        following = need(errands, ranks, number, held_up, level)
        if following == level:
            return found
        level = following
    return None


def longest_by(errands, ranks, number, held_up):
    found = levels_by(errands, ranks, number, held_up)
    return None if found is None else found[-1]


def longest_by_high(errands, ranks, number):
    return longest_by(errands, ranks, number, hold_by_high(errands, ranks, number))


def has_room(errands, ranks, number, room):
    answer = longest_by_high(errands, ranks, number)
    return answer is not None and answer + room <= errands[number][1]


def is_in_time(errands, ranks, number):
    return has_room(errands, ranks, number, 0)


def hold(errands, ranks, number):
    check_place(errands, ranks, number)
    return hold_by_high(errands, ranks, number)


def hold_asked(errands, ranks, number):
    check_place(errands, ranks, number)
    return hold_by_asked(errands, ranks, number)


def longest(errands, ranks, number):
    check_place(errands, ranks, number)
    return longest_by_high(errands, ranks, number)


def longest_asked(errands, ranks, number):
    check_place(errands, ranks, number)
    return longest_by(errands, ranks, number, hold_by_asked(errands, ranks, number))


def levels(errands, ranks, number):
    check_place(errands, ranks, number)
    return levels_by(errands, ranks, number, hold_by_high(errands, ranks, number))


def in_time(errands, ranks):
    checked(errands)
    checked_ranks(errands, ranks)
    return [number for number in range(len(errands)) if is_in_time(errands, ranks, number)]


# A job that comes just when all others are done makes the stretch go on, so it counts as well.
def works_until(errands, times):
    return sum([work_of(errand) * ((times + errand[2]) // errand[0] + 1) for errand in errands])


def stretch(errands):
    checked(errands)
    times = 1
    while times <= LONGEST_STRETCH:
        works = works_until(errands, times)
        if works <= times:
            return times
        times = works
    return None
