"""Ranks that fit, errands that never do, and by how much an errand may grow."""

from ranksure.bounds import has_room, is_in_time, longest_by_high
from ranksure.errands import check_place, checked, is_errand


# An errand's longest answer hangs on which errands are higher and which are lower, not on the order among these.
def as_lowest(errands, some, number):
    higher = [other for other in some if other != number]
    lower = [other for other in range(len(errands)) if other not in some]
    return tuple(higher + [number] + lower)


def not_placed(errands, placed):
    return [number for number in range(len(errands)) if number not in placed]


def following_lowest(errands, placed, room):
    left = not_placed(errands, placed)
    for number in left:
        if has_room(errands, as_lowest(errands, left, number), number, room):
            return number
    return None


# A raised errand never has a longer answer: those that go behind it can hold it up by one part at the most,
# and ahead of it each took its whole work. So any errand that has the room in the lowest place that is left
# may stand there, whatever the others need; and where none has it, none of them has it in a place below the others.
def placed_from_below(errands, room):
    placed = ()
    number = following_lowest(errands, placed, room)
    while number is not None:
        placed = (number,) + placed
        number = following_lowest(errands, placed, room)
    return placed


def ranks_with_room(errands, room):
    placed = placed_from_below(errands, room)
    return placed if len(placed) == len(errands) else None


def fitting(errands):
    checked(errands)
    return ranks_with_room(errands, 0)


def never(errands):
    checked(errands)
    left = not_placed(errands, placed_from_below(errands, 0))
    return left if len(left) > 0 else None


def why_one(errands, some, number):
    ranks = as_lowest(errands, some, number)
    return (number, ranks, longest_by_high(errands, ranks, number))


def why_never(errands):
    some = never(errands)
    return None if some is None else [why_one(errands, some, number) for number in some]


def do_fit(errands, ranks):
    return all([is_in_time(errands, ranks, number) for number in ranks])


def with_errand(errands, number, errand):
    return errands[:number] + (errand,) + errands[number + 1:]


def with_longer_end(errands, number, times):
    errand = errands[number]
    last = errand[3][-1]
    parts = errand[3][:-1] + ((last[0] + times, last[1]),)
    return with_errand(errands, number, errand[:3] + (parts,))


# Longer parts never shorten an answer, so the first length that is too much ends the search.
def spare(errands, ranks, number):
    check_place(errands, ranks, number)
    if not do_fit(errands, ranks):
        return None
    times = 0
    while do_fit(with_longer_end(errands, number, times + 1), ranks):
        times += 1
    return times


def with_less_every(errands, number, times):
    errand = errands[number]
    return with_errand(errands, number, (errand[0] - times,) + errand[1:])


def can_rush(errands, ranks, number, times):
    changed = with_less_every(errands, number, times)
    return is_errand(changed[number]) and do_fit(changed, ranks)


# An errand that comes more often never shortens an answer, so the first number that is too much ends the search.
def rush(errands, ranks, number):
    check_place(errands, ranks, number)
    if not do_fit(errands, ranks):
        return None
    times = 0
    while can_rush(errands, ranks, number, times + 1):
        times += 1
    return times


def roomiest(errands):
    checked(errands)
    told = None
    room = 0
    ranks = ranks_with_room(errands, room)
    while ranks is not None:
        told = (room, ranks)
        room += 1
        ranks = ranks_with_room(errands, room)
    return told
