"""Runs that show the longest answer, or that an errand is late."""

import inspect
import itertools
import unittest

from ranksure.bounds import hold, longest
from ranksure.runs import answers, checked_comings, run
from ranksure.shows import worst_run
from tests.made_up import made_up, soonest

GREATEST = ((20, 0), (20, 1), (20, 2), (20, None))


def made_up_ones():
    return itertools.chain(
        made_up(250, 21, everies=range(8, 31), length=3),
        made_up(100, 22, most=6, everies=range(20, 61), late=20, length=4),
        made_up(150, 23, most=3, everies=range(2, 9), late=8, length=3),
        made_up(60, 24, most=4, everies=range(15, 40), late=0, length=4, tools=(0, 1)),
        made_up(60, 25, most=3, everies=range(6, 25), late=5, length=4, tools=(None,)),
    )


class ShownTest(unittest.TestCase):
    def shown(self, errands, ranks, number):
        """The answer of the job that is told, behind all that is promised of what is told."""
        told = worst_run(errands, ranks, number)
        where = (errands, ranks, number, told)
        self.assertIsInstance(told, tuple)
        comings, job = told
        self.assertIsInstance(job, tuple)
        self.assertEqual(checked_comings(errands, comings), comings, where)
        self.assertEqual(job[0], number, where)
        self.assertIn(job[1], range(len(comings[number])), where)
        answer = answers(errands, ranks, comings, "high")[number][job[1]]
        most = longest(errands, ranks, number)
        if most is None:
            self.assertGreater(answer, errands[number][1], where)
        else:
            self.assertEqual(answer, most, where)
        self.comes_as_told(errands, ranks, number, comings)
        return answer

    def comes_as_told(self, errands, ranks, number, comings):
        place = ranks.index(number)
        start = comings[number][0]
        for one in ranks[:place + 1]:
            self.assertEqual(comings[one], soonest(errands[one], start, 60))
        lower = [one for one in ranks[place + 1:] if comings[one]]
        held = hold(errands, ranks, number)
        if held == 0:
            self.assertEqual(lower, [])
        else:
            self.assertEqual([len(comings[one]) for one in lower], [1])
            self.part_just_begun(errands, ranks, comings, start, lower[0], held)

    def part_just_begun(self, errands, ranks, comings, start, lower, held):
        """The lower errand's job does the first time of a part that gives the hold just ahead of the start."""
        told = run(errands, ranks, comings, "high")
        did = told[:start].count((lower, 0))
        self.assertEqual(told[start - 1], (lower, 0))
        ends = list(itertools.accumulate([length for length, _ in errands[lower][3]]))
        begun = [part for part, end in enumerate(ends) if end - errands[lower][3][part][0] == did - 1]
        self.assertEqual([errands[lower][3][part][0] - 1 for part in begun], [held])
        self.assertIsNotNone(errands[lower][3][begun[0]][1])


class WorstRunTest(ShownTest):
    def test_arguments(self):
        self.assertEqual(list(inspect.signature(worst_run).parameters), ["errands", "ranks", "number"])

    def test_many(self):
        seen = {}
        for errands, ranks in made_up_ones():
            for number in range(len(errands)):
                self.shown(errands, ranks, number)
                kind = (longest(errands, ranks, number) is None, hold(errands, ranks, number) > 0)
                seen[kind] = seen.get(kind, 0) + 1
        self.assertEqual(len(seen), 4)
        self.assertGreater(min(seen.values()), 30)

    def test_by_hand_without_a_hold(self):
        errands = ((10, 5, 3, ((2, None),)), (15, 6, 0, ((4, None),)), (40, 20, 0, ((3, None),)))
        comings, job = worst_run(errands, (0, 1, 2), 1)
        self.assertEqual(job, (1, 0))
        self.assertEqual(comings[2], [])
        start = comings[0][0]
        self.assertEqual(comings[0][:4], [start, start + 7, start + 17, start + 27])
        self.assertEqual(comings[1][:4], [start, start + 15, start + 30, start + 45])
        self.assertEqual(self.shown(errands, (0, 1, 2), 1), 6)
        self.assertEqual(self.shown(errands, (0, 1, 2), 2), 11)
        self.assertEqual(self.shown(errands, (0, 1, 2), 0), 2)

    def test_by_hand_with_a_hold(self):
        low = (60, 60, 0, ((2, None), (3, 1), (5, 0), (1, None)))
        errands = ((20, 20, 0, ((1, 0), (1, None))), (30, 26, 4, ((2, None),)), low)
        comings, job = worst_run(errands, (0, 1, 2), 0)
        self.assertEqual(job, (0, 0))
        self.assertEqual(comings[1], [])
        self.assertEqual(comings[0][0] - comings[2][0], 6)
        self.assertEqual(self.shown(errands, (0, 1, 2), 0), 6)
        comings, job = worst_run(errands, (0, 1, 2), 1)
        self.assertEqual(comings[0][0], comings[1][0])
        self.assertEqual(comings[1][0] - comings[2][0], 6)
        self.assertEqual(self.shown(errands, (0, 1, 2), 1), 8)

    def test_the_greatest_of_several_holds(self):
        lower = [(60, 60, 0, ((length, 0), (1, None))) for length in (3, 7, 5)]
        errands = ((40, 40, 0, ((1, 0), (1, None))),) + tuple(lower)
        for ranks in itertools.permutations(range(1, 4)):
            comings, _ = worst_run(errands, (0,) + ranks, 0)
            self.assertEqual([len(row) for row in comings[1:]], [0, 1, 0])
            self.assertEqual(self.shown(errands, (0,) + ranks, 0), 8)

    def test_parts_of_length_1_give_no_hold(self):
        errands = ((10, 10, 0, ((1, 0), (1, None))), (20, 20, 0, ((1, 0), (1, None))))
        self.assertEqual(worst_run(errands, (0, 1), 0)[0][1], [])
        self.assertEqual(self.shown(errands, (0, 1), 0), 2)

    def test_where_no_t_is_enough(self):
        errands = ((5, 5, 0, ((5, None),)), (60, 60, 0, ((1, None),)))
        self.assertGreater(self.shown(errands, (0, 1), 1), 60)
        errands = ((2, 1, 1, ((2, None),)), (60, 60, 0, ((1, None),)))
        self.assertGreater(self.shown(errands, (0, 1), 1), 60)
        self.assertEqual(self.shown(errands, (0, 1), 0), 2)

    def test_where_the_least_t_is_just_beyond(self):
        self.assertEqual(self.shown(((10, 7, 3, ((8, None),)),), (0,), 0), 8)
        errands = ((10, 10, 0, ((2, None),)), (16, 5, 11, ((4, None),)))
        self.assertEqual(self.shown(errands, (0, 1), 1), 6)

    def test_every_2_and_the_longest_answer_there_may_be(self):
        errands = ((2, 2, 0, ((1, None),)), (60, 60, 0, ((20, None), (10, None))))
        self.assertEqual(self.shown(errands, (0, 1), 1), 60)
        errands = ((2, 1, 1, ((1, None),)), (60, 60, 0, ((20, None), (9, None))))
        self.assertEqual(self.shown(errands, (0, 1), 1), 59)
        errands = ((2, 2, 0, ((1, None),)), (60, 60, 0, ((20, None), (11, None))))
        self.assertEqual(self.shown(errands, (0, 1), 1), 62)

    def test_the_greatest_numbers(self):
        errands = ((60, 40, 20, GREATEST),) * 6
        for number in range(6):
            self.assertGreater(self.shown(errands, (3, 1, 0, 5, 4, 2), number), 40)
        errands = ((60, 40, 20, ((20, 0), (1, None))), (60, 40, 20, GREATEST))
        self.assertEqual(self.shown(errands, (0, 1), 0), 40)
        last = ((20, None), (20, None), (20, 0), (1, None))
        errands = ((60, 40, 20, ((1, 0), (20, None))), (60, 40, 20, last))
        self.assertEqual(self.shown(errands, (0, 1), 0), 40)
        self.assertEqual(worst_run(errands, (0, 1), 0)[0][0][0] - worst_run(errands, (0, 1), 0)[0][1][0], 41)

    def test_told_are_new_lists(self):
        errands = ((10, 10, 0, ((1, 0), (1, None))), (20, 20, 0, ((3, 0), (1, None))))
        comings, job = worst_run(errands, (0, 1), 0)
        kept = [list(row) for row in comings]
        comings[0].append(99)
        comings[1].clear()
        comings.append([])
        self.assertEqual(worst_run(errands, (0, 1), 0), (kept, job))


if __name__ == "__main__":
    unittest.main()
