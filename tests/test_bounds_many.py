"""Bounds of many made-up errands, gone through in a fixed order: against plain trials, and against runs."""

import itertools
import unittest

from ranksure.bounds import hold, hold_asked, in_time, levels, longest, longest_asked, stretch
from ranksure.runs import answers, run
from tests.made_up import (Numbers, made_comings, made_ranks, made_up, plain_hold, plain_hold_asked, plain_longest,
                           plain_need, plain_stretch, soonest, stretches)

WORDS = ("high", "asked", "none")
BOUNDS = (("high", hold, longest), ("asked", hold_asked, longest_asked))


def all_kinds():
    return itertools.chain(
        made_up(800, 1),
        made_up(400, 2, most=6, everies=range(10, 61), late=20, length=5),
        made_up(300, 3, most=3, everies=range(2, 12), late=11, length=3),
        made_up(200, 4, most=5, everies=range(12, 40), late=8, length=4, tools=(0,)),
    )


def no_longer(answer, than):
    return than is None or answer is not None and answer <= than


class PlainTrialTest(unittest.TestCase):
    def test_holds(self):
        seen = {}
        for errands, ranks in all_kinds():
            for number in range(len(errands)):
                told = (hold(errands, ranks, number), hold_asked(errands, ranks, number))
                expected = (plain_hold(errands, ranks, number), plain_hold_asked(errands, ranks, number))
                self.assertEqual(told, expected, (errands, ranks, number))
                seen[(told[0] > 0, told[1] > told[0])] = True
        self.assertEqual(len(seen), 3)

    def test_longest_answers(self):
        told = {True: 0, False: 0}
        for errands, ranks in all_kinds():
            for number in range(len(errands)):
                expected = plain_longest(errands, ranks, number, plain_hold(errands, ranks, number))
                self.assertEqual(longest(errands, ranks, number), expected, (errands, ranks, number))
                told[expected is None] += 1
                asked = plain_longest(errands, ranks, number, plain_hold_asked(errands, ranks, number))
                self.assertEqual(longest_asked(errands, ranks, number), asked, (errands, ranks, number))
        self.assertGreater(min(told.values()), 500)

    def test_in_time(self):
        for errands, ranks in all_kinds():
            expected = []
            for number, errand in enumerate(errands):
                answer = plain_longest(errands, ranks, number, plain_hold(errands, ranks, number))
                if answer is not None and answer <= errand[1]:
                    expected.append(number)
            self.assertEqual(in_time(errands, ranks), expected, (errands, ranks))

    def test_levels(self):
        lengths = {}
        for errands, ranks in all_kinds():
            for number in range(len(errands)):
                told = levels(errands, ranks, number)
                answer = longest(errands, ranks, number)
                if answer is None:
                    self.assertIsNone(told)
                    continue
                held = plain_hold(errands, ranks, number)
                needs = [plain_need(errands, ranks, number, held, times) for times in [1] + told]
                self.assertEqual(told + [answer], needs, (errands, ranks, number))
                self.assertEqual(told, sorted(set(told)))
                self.assertEqual(told[-1], answer)
                lengths[len(told)] = True
        self.assertGreater(len(lengths), 3)

    def test_without_tools(self):
        for errands, ranks in made_up(300, 5, most=5, tools=(None,)):
            for number in range(len(errands)):
                self.assertEqual(hold(errands, ranks, number), 0)
                self.assertEqual(hold_asked(errands, ranks, number), 0)
                self.assertEqual(longest_asked(errands, ranks, number), longest(errands, ranks, number))

    def test_stretches(self):
        told = {True: 0, False: 0}
        kinds = itertools.chain(
            made_up(100, 6, most=3, everies=range(8, 31), length=4),
            made_up(60, 7, most=2, everies=range(2, 10), late=9, length=4),
            made_up(60, 8, most=6, everies=range(30, 61), late=20, length=5),
        )
        for errands, _ in kinds:
            expected = plain_stretch(errands)
            self.assertEqual(stretch(errands), expected, errands)
            told[expected is None] += 1
        self.assertGreater(min(told.values()), 10)


def with_every(errands, number, every):
    one = (every,) + errands[number][1:]
    return errands[:number] + (one,) + errands[number + 1:]


def with_shorter(errands, number, part):
    """The errands with one part of one of them shorter by 1."""
    every, due, late, parts = errands[number]
    shorter = parts[:part] + ((parts[part][0] - 1, parts[part][1]),) + parts[part + 1:]
    return errands[:number] + ((every, due, late, shorter),) + errands[number + 1:]


class NoLongerTest(unittest.TestCase):
    def all_no_longer(self, changed, errands, ranks):
        for number in range(len(errands)):
            for call in (longest, longest_asked):
                ahead = call(errands, ranks, number)
                self.assertTrue(no_longer(call(changed, ranks, number), ahead), (errands, changed, ranks, number))

    def test_an_errand_raised_by_one_place(self):
        shorter = 0
        for errands, ranks in all_kinds():
            for place in range(1, len(ranks)):
                number = ranks[place]
                raised = ranks[:place - 1] + (number, ranks[place - 1]) + ranks[place + 1:]
                for call in (longest, longest_asked):
                    ahead = call(errands, ranks, number)
                    behind = call(errands, raised, number)
                    self.assertTrue(no_longer(behind, ahead), (errands, ranks, number))
                    shorter += behind != ahead
        self.assertGreater(shorter, 500)

    def test_an_errand_that_comes_less_often(self):
        for errands, ranks in made_up(300, 9):
            for number in range(len(errands)):
                for more in (1, 2, 7):
                    self.all_no_longer(with_every(errands, number, errands[number][0] + more), errands, ranks)

    def test_a_part_that_is_shorter(self):
        for errands, ranks in made_up(300, 10):
            for number in range(len(errands)):
                for part, (length, _) in enumerate(errands[number][3]):
                    if length > 1:
                        self.all_no_longer(with_shorter(errands, number, part), errands, ranks)


def waiting(told, ranks, number, came, answer):
    """How many times, from a job's coming until it is done, the hand does jobs of lower errands."""
    lower = ranks[ranks.index(number) + 1:]
    return len([done for done in told[came:came + answer] if done is not None and done[0] in lower])


def with_comings():
    """Errands, ranks and comings: mixed ones, and ones that come closely behind a lower one."""
    numbers = Numbers(11)
    for errands, ranks in all_kinds():
        yield errands, ranks, made_comings(numbers, errands, 6, 12)
        comings = [soonest(errand, numbers.between(1, 6), 6) for errand in errands]
        comings[ranks[-1]] = [0]
        yield errands, ranks, comings


class AgainstRunsTest(unittest.TestCase):
    def jobs(self, word):
        for errands, ranks, comings in with_comings():
            told = run(errands, ranks, comings, word)
            for number, row in enumerate(answers(errands, ranks, comings, word)):
                for came, answer in zip(comings[number], row):
                    waits = waiting(told, ranks, number, came, answer)
                    yield (errands, ranks, number), waits, answer, comings

    def test_no_longer_answer_than_the_longest(self):
        for word, _, bound in BOUNDS:
            reached = 0
            for place, _, answer, comings in self.jobs(word):
                most = bound(*place)
                self.assertTrue(most is None or answer <= most, (place, comings, word))
                reached += answer == most
            self.assertGreater(reached, 1000)

    def test_no_longer_waiting_than_the_hold(self):
        for word, bound, _ in BOUNDS:
            reached = 0
            for place, waits, _, comings in self.jobs(word):
                most = bound(*place)
                self.assertLessEqual(waits, most, (place, comings, word))
                reached += waits == most > 0
            self.assertGreater(reached, 100)

    def test_every_small_coming(self):
        """All ways in which three errands that share tools can come closely behind one another, each of them once."""
        top = (30, 30, 0, ((1, None), (1, 0), (1, 1), (1, None)))
        middle = (30, 30, 0, ((3, 0), (1, None)))
        low = (30, 30, 0, ((1, None), (4, 1), (1, None)))
        errands = (top, middle, low)
        ranks = (0, 1, 2)
        greatest = {"high": [0, 0, 0], "asked": [0, 0, 0]}
        for came in itertools.product(range(12), repeat=3):
            comings = [[one] for one in came]
            for word in greatest:
                told = answers(errands, ranks, comings, word)
                greatest[word] = [max(most, one[0]) for most, one in zip(greatest[word], told)]
        self.assertEqual(greatest["high"], [longest(errands, ranks, number) for number in range(3)])
        self.assertEqual(greatest["high"], [7, 11, 14])
        self.assertEqual([longest_asked(errands, ranks, number) for number in range(3)], [9, 11, 14])
        self.assertEqual(greatest["asked"][0], 9)

    def test_without_tools_no_hold_and_one_run(self):
        numbers = Numbers(12)
        for errands, ranks in made_up(300, 13, tools=(None,)):
            comings = made_comings(numbers, errands, 6, 12)
            told = run(errands, ranks, comings, "high")
            for word in WORDS:
                self.assertEqual(run(errands, ranks, comings, word), told)
            for number, row in enumerate(answers(errands, ranks, comings, "high")):
                self.assertEqual(hold(errands, ranks, number), 0)
                for came, answer in zip(comings[number], row):
                    self.assertEqual(waiting(told, ranks, number, came, answer), 0)


class StretchAgainstRunsTest(unittest.TestCase):
    def test_no_longer_stretch(self):
        reached = 0
        for errands, ranks, comings in with_comings():
            most = stretch(errands)
            for word in WORDS:
                for times in stretches(run(errands, ranks, comings, word)):
                    self.assertTrue(most is None or times <= most, (errands, ranks, comings, word))
                    reached += times == most
        self.assertGreater(reached, 100)

    def test_all_at_once_and_as_soon_as_they_can(self):
        numbers = Numbers(14)
        seen = 0
        for errands, ranks in all_kinds():
            most = stretch(errands)
            start = numbers.below(5)
            if most is not None and all([59 * errand[0] > most + errand[2] for errand in errands]):
                seen += 1
                comings = [soonest(errand, start, 60) for errand in errands]
                for word, order in zip(WORDS, (ranks, ranks[::-1], made_ranks(numbers, len(ranks)))):
                    first = stretches(run(errands, order, comings, word))[0]
                    self.assertEqual(first, most, (errands, order, word))
        self.assertGreater(seen, 300)


if __name__ == "__main__":
    unittest.main()
