"""Made-up errands, ranks and comings in a fixed order, and what the document's words give for them, tried out plainly."""

import itertools


class Numbers:
    """Numbers that look mixed, but are the same ones each time."""

    def __init__(self, start):
        self.state = start

    def below(self, most):
        self.state = (self.state * 6364136223846793005 + 1442695040888963407) % 2 ** 64
        return (self.state >> 33) % most

    def between(self, least, most):
        return least + self.below(most - least + 1)

    def one_of(self, things):
        return things[self.below(len(things))]


def made_parts(numbers, length, tools):
    parts = [(numbers.between(1, length), numbers.one_of(tools)) for _ in range(numbers.below(3))]
    return tuple(parts) + ((numbers.between(1, length), None),)


def made_errand(numbers, everies, late, length, tools):
    every = numbers.one_of(everies)
    latest = numbers.between(0, min(late, every - 1))
    return (every, numbers.between(1, every - latest), latest, made_parts(numbers, length, tools))


def made_up(many, start, most=4, everies=range(5, 31), late=6, length=4, tools=(0, 1, 2, 3, None)):
    """So many pairs of errands and ranks."""
    numbers = Numbers(start)
    for _ in range(many):
        errands = tuple([made_errand(numbers, everies, late, length, tools) for _ in range(numbers.between(1, most))])
        yield errands, made_ranks(numbers, len(errands))


def made_ranks(numbers, many):
    left = list(range(many))
    return tuple([left.pop(numbers.below(len(left))) for _ in range(many)])


def made_comings(numbers, errands, jobs, first):
    """Comings with up to so many jobs each, by moments that are hardly further apart than they must be."""
    comings = []
    for every, _, late, _ in errands:
        moment = numbers.between(-late, first)
        row = []
        for _ in range(numbers.between(0, jobs)):
            row.append(max(0, moment + numbers.one_of((0, late, numbers.between(0, late)))))
            moment += every + numbers.one_of((0, 0, 0, 1, 3))
        comings.append(row)
    return comings


def soonest(errand, start, jobs):
    """Comings of one errand from a time on, the first one late, as soon as they can be."""
    moments = [start - errand[2] + job * errand[0] for job in range(jobs)]
    return [start] + moments[1:]


def work_by_hand(errand):
    return sum([length for length, _ in errand[3]])


def higher_ones(ranks, number):
    return list(itertools.takewhile(lambda other: other != number, ranks))


def lower_ones(ranks, number):
    return [other for other in ranks if other != number and other not in higher_ones(ranks, number)]


def holding_parts(errands, ranks, number):
    """(errand, tool, length less 1) of each part of a lower errand that this one or a higher one has the tool of."""
    tools = []
    for other in higher_ones(ranks, number) + [number]:
        tools += [tool for _, tool in errands[other][3] if tool is not None]
    found = []
    for other in lower_ones(ranks, number):
        found += [(other, tool, length - 1) for length, tool in errands[other][3] if tool in tools]
    return found


def plain_hold(errands, ranks, number):
    return max([0] + [times for _, _, times in holding_parts(errands, ranks, number)])


def plain_hold_asked(errands, ranks, number):
    found = holding_parts(errands, ranks, number)
    sums = []
    for kind in (0, 1):
        keys = {one[kind] for one in found}
        sums.append(sum([max([one[2] for one in found if one[kind] == key]) for key in keys]))
    return min(sums)


def plain_need(errands, ranks, number, held, times):
    total = held + work_by_hand(errands[number])
    for other in higher_ones(ranks, number):
        every, _, late, _ = errands[other]
        often = len([one for one in range(0, times + late, every)])
        total += often * work_by_hand(errands[other])
    return total


def plain_longest(errands, ranks, number, held):
    every, _, late, _ = errands[number]
    for times in range(1, every - late + 1):
        if times >= plain_need(errands, ranks, number, held, times):
            return times
    return None


def plain_stretch(errands, most=9999):
    works = [(every, late, sum([length for length, _ in parts])) for every, _, late, parts in errands]
    for times in range(1, most + 1):
        if times >= sum([work * ((times + late) // every + 1) for every, late, work in works]):
            return times
    return None


def stretches(told):
    """How long each stretch of a run is in which the hand does jobs."""
    return [len(list(some)) for busy, some in itertools.groupby(told, lambda done: done is not None) if busy]


def plain_answers(errands, ranks):
    """The longest answer of each errand."""
    return [plain_longest(errands, ranks, number, plain_hold(errands, ranks, number)) for number in range(len(errands))]


def plain_room(errands, ranks):
    """The least room of all errands, or None, where one has no longest answer."""
    told = plain_answers(errands, ranks)
    return None if None in told else min([errand[1] - answer for errand, answer in zip(errands, told)])


def plain_fit(errands, ranks):
    room = plain_room(errands, ranks)
    return room is not None and room >= 0


def all_ranks(errands):
    return list(itertools.permutations(range(len(errands))))
