"""Ranks that fit, sets that never do, spares, rushes and rooms of many made-up errands, against plain trials."""

import itertools
import unittest

from ranksure.bounds import in_time, longest
from ranksure.dealing import fitting, never, roomiest, rush, spare, why_never
from ranksure.errands import checked
from ranksure.errors import NoErrands
from tests.made_up import Numbers, all_ranks, made_up, plain_answers, plain_fit, plain_room


def small_kinds():
    """Errands few enough that all ranks are tried out."""
    return itertools.chain(
        made_up(150, 61, most=3),
        made_up(200, 62, most=4, everies=range(12, 40), late=3, length=2),
        made_up(100, 63, most=4, everies=range(10, 61), late=20, length=4),
        made_up(100, 64, most=4, everies=range(15, 40), late=8, length=4, tools=(0, None)),
        made_up(60, 65, most=3, everies=range(2, 12), late=11, length=2),
    )


def large_kinds():
    return itertools.chain(
        made_up(400, 66, most=6, everies=range(30, 61), late=6, length=2),
        made_up(400, 67, most=6, everies=range(20, 61), late=20, length=4),
    )


def all_are_in_time(errands, ranks):
    return in_time(errands, ranks) == list(range(len(errands)))


class FittingTest(unittest.TestCase):
    def test_against_a_trial_of_all_ranks(self):
        told = {True: 0, False: 0}
        for errands, _ in small_kinds():
            fits = any([plain_fit(errands, ranks) for ranks in all_ranks(errands)])
            ranks = fitting(errands)
            self.assertEqual(ranks is not None, fits, errands)
            if fits:
                self.assertIn(ranks, all_ranks(errands))
                self.assertTrue(all_are_in_time(errands, ranks), (errands, ranks))
            told[fits] += len(errands) > 1
        self.assertGreater(min(told.values()), 100)

    def test_against_ranks_by_due(self):
        """Where any ranks fit, those fit that go by due: no errand comes twice ahead of its due."""
        told = {True: 0, False: 0}
        for errands, _ in large_kinds():
            by_due = tuple(sorted(range(len(errands)), key=lambda number: errands[number][1]))
            fits = all_are_in_time(errands, by_due)
            ranks = fitting(errands)
            self.assertEqual(ranks is not None, fits, errands)
            if fits:
                self.assertTrue(all_are_in_time(errands, ranks), (errands, ranks))
            told[fits] += len(errands) > 4
        self.assertGreater(min(told.values()), 10)


class NeverTest(unittest.TestCase):
    def test_none_just_where_ranks_fit(self):
        for errands, _ in itertools.chain(small_kinds(), large_kinds()):
            fits = fitting(errands) is not None
            self.assertEqual(never(errands) is None, fits, errands)
            self.assertEqual(why_never(errands) is None, fits, errands)

    def test_a_rising_list_of_errands(self):
        sizes = {}
        for errands, _ in itertools.chain(small_kinds(), large_kinds()):
            some = never(errands)
            if some is not None:
                self.assertNotEqual(some, [])
                self.assertEqual(some, [number for number in range(len(errands)) if number in some])
                sizes[(len(some), len(errands))] = True
        self.assertGreater(len(sizes), 15)

    def test_the_lowest_is_late_by_all_ranks(self):
        for errands, _ in small_kinds():
            some = never(errands)
            if some is not None:
                for ranks in all_ranks(errands):
                    lowest = [number for number in ranks if number in some][-1]
                    answer = plain_answers(errands, ranks)[lowest]
                    self.assertTrue(answer is None or answer > errands[lowest][1], (errands, ranks))

    def test_why(self):
        seen = {True: 0, False: 0}
        for errands, _ in itertools.chain(small_kinds(), large_kinds()):
            why = why_never(errands)
            if why is None:
                continue
            some = never(errands)
            self.assertEqual([number for number, _, _ in why], some)
            for number, ranks, answer in why:
                self.assertEqual(sorted(ranks), list(range(len(errands))))
                self.assertEqual(set(ranks[:len(some)]), set(some))
                self.assertEqual(ranks[len(some) - 1], number)
                self.assertEqual(answer, longest(errands, ranks, number))
                self.assertTrue(answer is None or answer > errands[number][1])
                seen[answer is None] += 1
        self.assertGreater(min(seen.values()), 50)


def longer_end(errands, number, times):
    every, due, late, parts = errands[number]
    parts = parts[:-1] + ((parts[-1][0] + times, None),)
    return errands[:number] + ((every, due, late, parts),) + errands[number + 1:]


def less_every(errands, number, times):
    every, due, late, parts = errands[number]
    return errands[:number] + ((every - times, due, late, parts),) + errands[number + 1:]


def are_errands(errands):
    try:
        checked(errands)
    except NoErrands:
        return False
    return True


def places(start):
    """Errands, ranks that mostly fit, and each number."""
    numbers = Numbers(start)
    kinds = itertools.chain(small_kinds(), made_up(200, 68, most=4, everies=range(40, 61), late=3, length=2))
    for errands, ranks in kinds:
        fit = fitting(errands)
        if fit is not None and numbers.below(4) > 0:
            ranks = fit
        for number in range(len(errands)):
            yield errands, ranks, number


class GrowthTest(unittest.TestCase):
    def test_spare(self):
        seen = {"none": 0, "0": 0, "some": 0, "beyond 20": 0}
        for errands, ranks, number in places(71):
            told = spare(errands, ranks, number)
            if not plain_fit(errands, ranks):
                self.assertIsNone(told, (errands, ranks))
                seen["none"] += 1
                continue
            where = (errands, ranks, number, told)
            grown = longer_end(errands, number, told)
            self.assertTrue(plain_fit(grown, ranks), where)
            self.assertFalse(plain_fit(longer_end(errands, number, told + 1), ranks), where)
            if are_errands(grown):
                self.assertTrue(all_are_in_time(grown, ranks), where)
                seen["some" if told > 0 else "0"] += 1
            else:
                seen["beyond 20"] += 1
        self.assertGreater(min(seen.values()), 10, seen)

    def test_rush(self):
        seen = {"none": 0, "0": 0, "no errand": 0, "not in time": 0}
        for errands, ranks, number in places(72):
            told = rush(errands, ranks, number)
            if not plain_fit(errands, ranks):
                self.assertIsNone(told, (errands, ranks))
                seen["none"] += 1
                continue
            for less in range(told + 1):
                rushed = less_every(errands, number, less)
                self.assertTrue(all_are_in_time(checked(rushed), ranks), (errands, ranks, number, less))
            rushed = less_every(errands, number, told + 1)
            if are_errands(rushed):
                self.assertFalse(plain_fit(rushed, ranks), (errands, ranks, number, told))
                seen["not in time"] += 1
            else:
                seen["no errand" if told > 0 else "0"] += 1
        self.assertGreater(min(seen.values()), 10, seen)


class RoomiestTest(unittest.TestCase):
    def test_against_a_trial_of_all_ranks(self):
        seen = {}
        for errands, _ in small_kinds():
            rooms = [plain_room(errands, ranks) for ranks in all_ranks(errands)]
            greatest = max([room for room in rooms if room is not None], default=-1)
            told = roomiest(errands)
            if greatest < 0:
                self.assertIsNone(told, errands)
            else:
                room, ranks = told
                self.assertEqual(room, greatest, errands)
                self.assertIn(ranks, all_ranks(errands))
                self.assertEqual(plain_room(errands, ranks), room, (errands, ranks))
            seen[greatest] = seen.get(greatest, 0) + 1
        self.assertGreater(seen[0], 5)
        self.assertGreater(len(seen), 20)

    def test_none_just_where_none_fit(self):
        for errands, _ in large_kinds():
            told = roomiest(errands)
            self.assertEqual(told is None, fitting(errands) is None, errands)
            if told is not None:
                self.assertTrue(all_are_in_time(errands, told[1]), errands)


if __name__ == "__main__":
    unittest.main()
