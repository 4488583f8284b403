"""Papers: bounds, runs in which an errand is late, and sets that show that no ranks fit."""

import copy
import inspect
import itertools
import unittest

from ranksure.bounds import in_time, longest
from ranksure.dealing import fitting, never
from ranksure.papers import is_bound, is_late, is_never
from ranksure.runs import answers
from ranksure.shows import worst_run
from tests.made_up import all_ranks, made_up, plain_answers, plain_hold, plain_need


def errand(*parts, every=60, due=60, late=0):
    return (every, due, late, parts)


def plain(work, every=60, due=60, late=0):
    return (every, due, late, ((work, None),))


# Things of any kind that are no time, no pair of comings and a job, and no list of errands.
THINGS = (None, True, False, -1, 10 ** 30, 2.0, float("nan"), float("inf"), "", "2", b"2", [], {}, (), set(), {0, 1},
          {0: 1}, range(2), object(), int, len, [None], [[]], [[], []], ((), ()), ([], []), (None, None), "01", ["0"],
          [0.0], [True], [[0]], [(0,)], iter([0]), [0] * 7)


class PaperCase(unittest.TestCase):
    def yes(self, told, where=None):
        self.assertIs(told, True, where)

    def no(self, told, where=None):
        self.assertIs(told, False, where)


class ArgumentsTest(unittest.TestCase):
    def test_arguments(self):
        self.assertEqual(list(inspect.signature(is_bound).parameters), ["errands", "ranks", "number", "time"])
        self.assertEqual(list(inspect.signature(is_late).parameters), ["errands", "ranks", "number", "thing"])
        self.assertEqual(list(inspect.signature(is_never).parameters), ["errands", "thing"])


class IsBoundTest(PaperCase):
    def bounds(self, errands, ranks, number):
        """All bounds from far below 0 to far beyond every."""
        return [time for time in range(-70, 140) if is_bound(errands, ranks, number, time)]

    def test_one_errand(self):
        self.assertEqual(self.bounds((plain(3, every=8, due=1),), (0,), 0), [3, 4, 5, 6, 7, 8])
        self.assertEqual(self.bounds((plain(3, every=8, due=1, late=2),), (0,), 0), [3, 4, 5, 6])
        self.assertEqual(self.bounds((plain(3, every=3, due=1),), (0,), 0), [3])
        self.assertEqual(self.bounds((plain(4, every=3, due=1),), (0,), 0), [])
        self.assertEqual(self.bounds((plain(1, every=2, due=1, late=1),), (0,), 0), [1])

    def test_needs_that_climb(self):
        # Of the lower one: 3 + 2 for 1 to 5 times, 3 + 4 for 6 to 10, 3 + 6 for 11 to 15.
        errands = (plain(2, every=5, due=2), plain(3, every=14, due=1))
        self.assertEqual(self.bounds(errands, (0, 1), 1), [5, 7, 8, 9, 10, 11, 12, 13, 14])
        self.assertEqual(self.bounds(errands, (0, 1), 0), [2, 3, 4, 5])
        self.assertEqual(self.bounds(errands, (1, 0), 0), [5])
        # Late by 1 it is 3 + 2 for 1 to 4 times, 3 + 4 for 5 to 9.
        errands = (plain(2, every=5, due=2, late=1), plain(3, every=8, due=1))
        self.assertEqual(self.bounds(errands, (0, 1), 1), [7, 8])

    def test_with_a_hold(self):
        errands = (errand((1, 0), (1, None), every=9, due=1), errand((4, 0), (1, None), every=9, due=1))
        self.assertEqual(self.bounds(errands, (0, 1), 0), [5, 6, 7, 8, 9])
        self.assertEqual(self.bounds(errands, (0, 1), 1), [7, 8, 9])
        self.assertEqual(self.bounds(errands, (1, 0), 0), [7, 8, 9])
        self.assertEqual(self.bounds(errands, (1, 0), 1), [5, 6, 7, 8, 9])

    def test_due_does_not_matter(self):
        self.yes(is_bound((plain(3, every=8, due=1),), (0,), 0, 8))
        self.yes(is_bound((plain(3, every=8, due=8),), (0,), 0, 3))

    def test_things_that_are_no_time(self):
        for thing in THINGS:
            self.no(is_bound((plain(1),), (0,), 0, thing), repr(thing))
        self.yes(is_bound((plain(1),), (0,), 0, 1))
        self.yes(is_bound((plain(1),), (0,), 0, 2))

    def test_many(self):
        reached = 0
        for errands, ranks in made_up(250, 91, most=4):
            for number, one in enumerate(errands):
                held = plain_hold(errands, ranks, number)
                most = one[0] - one[2]
                self.no(is_bound(errands, ranks, number, 0))
                told = []
                for time in range(1, one[0] + 4):
                    fits = plain_need(errands, ranks, number, held, time) <= time <= most
                    self.assertIs(is_bound(errands, ranks, number, time), fits, (errands, ranks, number, time))
                    told += [time] if fits else []
                self.assertEqual(longest(errands, ranks, number), min(told, default=None))
                reached += len(told) > 0
        self.assertGreater(reached, 100)


class IsLateTest(PaperCase):
    # By (0, 1) errand 1 is done at 5, beyond its due, if both come at once.
    ERRANDS = (plain(2, every=10, due=2), plain(3, every=10, due=4, late=2))
    BOTH = [[0], [0]]

    def test_by_hand(self):
        self.yes(is_late(self.ERRANDS, (0, 1), 1, (self.BOTH, (1, 0))))
        self.no(is_late(self.ERRANDS, (0, 1), 0, (self.BOTH, (0, 0))))
        self.yes(is_late(self.ERRANDS, (1, 0), 0, (self.BOTH, (0, 0))))
        self.no(is_late(self.ERRANDS, (1, 0), 1, (self.BOTH, (1, 0))))

    def test_just_by_due(self):
        errands = (self.ERRANDS[0], plain(3, every=10, due=5))
        self.no(is_late(errands, (0, 1), 1, (self.BOTH, (1, 0))))
        self.no(is_late(self.ERRANDS, (0, 1), 1, ([[0], [1]], (1, 0))))
        self.no(is_late(self.ERRANDS, (0, 1), 1, ([[3], [0]], (1, 0))))
        self.yes(is_late(self.ERRANDS, (0, 1), 1, ([[2], [0]], (1, 0))))

    def test_another_job_of_the_errand(self):
        comings = [[0, 10], [0, 8]]
        self.yes(is_late(self.ERRANDS, (0, 1), 1, (comings, (1, 0))))
        self.yes(is_late(self.ERRANDS, (0, 1), 1, (comings, (1, 1))))
        comings = [[1, 20], [3, 20, 40]]
        self.assertEqual([is_late(self.ERRANDS, (0, 1), 1, (comings, (1, job))) for job in range(4)],
                         [False, True, False, False])

    def test_another_errand_s_job(self):
        self.no(is_late(self.ERRANDS, (0, 1), 0, (self.BOTH, (1, 0))))
        self.no(is_late(self.ERRANDS, (1, 0), 1, (self.BOTH, (0, 0))))

    def test_a_job_that_is_none_of_the_comings(self):
        for job in ((1, 1), (1, -1), (1, 60), (2, 0), (-1, 0), (1, 10 ** 30)):
            self.no(is_late(self.ERRANDS, (0, 1), 1, (self.BOTH, job)), job)
        self.no(is_late(self.ERRANDS, (0, 1), 1, ([[0], []], (1, 0))))
        self.no(is_late(self.ERRANDS, (0, 1), 1, ([[], []], (1, 0))))

    def test_a_job_of_another_kind(self):
        for job in ([1, 0], (True, 0), (1, False), ("1", 0), (1, "0"), "10", 1, None, (1,), (1, 0, 0), (), (1.0, 0),
                    (1, 0.0), ((1, 0),), {1: 0}, {1, 0}, (1, None), (None, 0), ([1], 0), range(1, -1, -1), object()):
            self.no(is_late(self.ERRANDS, (0, 1), 1, (self.BOTH, job)), repr(job))
        self.no(is_late(self.ERRANDS, (1, 0), 0, (self.BOTH, (False, 0))))
        self.no(is_late(self.ERRANDS, (1, 0), 0, (self.BOTH, (False, False))))

    def test_true_in_the_place_of_the_job_s_number(self):
        comings = [[0, 20], [0, 20]]
        self.yes(is_late(self.ERRANDS, (0, 1), 1, (comings, (1, 1))))
        self.no(is_late(self.ERRANDS, (0, 1), 1, (comings, (1, True))))

    def test_comings_that_can_not_be(self):
        # The second job of errand 1 comes 8 times behind the first one at the soonest, that of errand 0 10 times.
        self.yes(is_late(self.ERRANDS, (0, 1), 1, ([[0, 10], [0, 8]], (1, 0))))
        for comings in ([[0], [0, 7]], [[0, 9], [0]], [[0], [-1]], [[0], [0, 0]], [[0], [0, 10000]], [[0], [0], []],
                        [[0]], [], ([0], [0]), [(0,), (0,)], [[0], (0,)], [[0], [True]], [[False], [0]], [[0], ["0"]],
                        [[0], None], None, "00", 0, {0: [0], 1: [0]}, [[0], list(range(0, 610, 10))], [[0], [0.0]]):
            self.no(is_late(self.ERRANDS, (0, 1), 1, (comings, (1, 0))), repr(comings))

    def test_things_of_another_kind(self):
        for thing in THINGS + ([self.BOTH, (1, 0)], (self.BOTH,), (self.BOTH, (1, 0), None), (self.BOTH, 1, 0),
                               ((1, 0), self.BOTH), ((self.BOTH, (1, 0)),), {"comings": self.BOTH, "job": (1, 0)}):
            self.no(is_late(self.ERRANDS, (0, 1), 1, thing), repr(thing))

    def test_by_high(self):
        # By "high" the middle one is kept away by the lowest one's part, by the other words it is not.
        errands = (errand((1, None), (1, 0), (1, None)), plain(2, due=2), errand((3, 0), (1, None)))
        comings = [[20], [1], [0]]
        self.assertEqual(answers(errands, (0, 1, 2), comings, "asked")[1], [2])
        self.assertEqual(answers(errands, (0, 1, 2), comings, "none")[1], [2])
        self.yes(is_late(errands, (0, 1, 2), 1, (comings, (1, 0))))

    def test_worst_runs(self):
        seen = {True: 0, False: 0}
        for errands, ranks in itertools.chain(made_up(150, 92), made_up(60, 93, most=5, everies=range(20, 61))):
            timely = in_time(errands, ranks)
            for number in range(len(errands)):
                thing = worst_run(errands, ranks, number)
                kept = copy.deepcopy(thing)
                self.assertIs(is_late(errands, ranks, number, thing), number not in timely, (errands, ranks, number))
                self.assertEqual(thing, kept)
                seen[number in timely] += 1
                for other in range(len(errands)):
                    if other != number:
                        self.no(is_late(errands, ranks, other, thing))
        self.assertGreater(min(seen.values()), 50)

    def test_each_job_of_worst_runs(self):
        for errands, ranks in made_up(40, 94, most=3):
            for number in range(len(errands)):
                comings = worst_run(errands, ranks, number)[0]
                told = answers(errands, ranks, comings, "high")
                for one, row in enumerate(told):
                    for job in (0, 1, len(row) - 1, len(row)):
                        expected = 0 <= job < len(row) and row[job] > errands[one][1]
                        self.assertIs(is_late(errands, ranks, one, (comings, (one, job))), expected)


class IsNeverTest(PaperCase):
    # Errands 1 and 3 clash, the others are always in time.
    ERRANDS = (plain(1), plain(3, due=3), plain(1), plain(4, due=6))

    def test_by_hand(self):
        for size in range(5):
            for some in itertools.combinations(range(4), size):
                self.assertIs(is_never(self.ERRANDS, list(some)), some == (1, 3), some)

    def test_in_any_order(self):
        self.yes(is_never(self.ERRANDS, [3, 1]))
        errands = (plain(3, due=8), plain(3, due=8), plain(3, due=8))
        for order in itertools.permutations(range(3)):
            self.yes(is_never(errands, list(order)))

    def test_one_twice(self):
        for thing in ([1, 3, 1], [1, 1, 3], [1, 3, 3], [1, 1], [3, 3], [1, 3, 1, 3]):
            self.no(is_never(self.ERRANDS, thing), thing)
        self.yes(is_never((plain(3, due=2),), [0]))
        self.no(is_never((plain(3, due=2),), [0, 0]))

    def test_things_of_another_kind(self):
        late = (plain(3, due=2), plain(3, due=2))
        for some in ([0], [1], [0, 1]):
            self.yes(is_never(late, some))
        for thing in THINGS + ((0,), (1,), (0, 1), [0, True], [False, 1], [1, 0, 2], [0, -1], [2], [-1], [0, None],
                               [1, "0"], "0", 0, 1, [0, [1]], [1, 10 ** 30], [0, 1.0], {0: 0}, late, list(late)):
            self.no(is_never(late, thing), repr(thing))

    def test_all_others_are_lower_still(self):
        # Errand 0 is late for the part that errand 1 holds as the lower one, errand 1 is in time wherever it is.
        errands = (errand((1, 0), (1, None), due=5), errand((5, 0), (1, None)))
        self.yes(is_never(errands, [0]))
        self.no(is_never(errands, [1]))
        self.no(is_never(errands, [0, 1]))
        # As the higher one errand 1 is late no less, but a set that is told so has others lower.
        self.yes(is_never(errands[::-1], [1]))

    def test_what_never_tells(self):
        seen = {True: 0, False: 0}
        for errands, _ in itertools.chain(made_up(200, 95), made_up(200, 96, most=6, everies=range(20, 61))):
            some = never(errands)
            self.no(is_never(errands, []))
            if some is None:
                self.no(is_never(errands, list(range(len(errands)))))
                continue
            kept = list(some)
            self.yes(is_never(errands, some), errands)
            self.assertEqual(some, kept)
            self.no(is_never(errands, some + some[:1]))
            self.no(is_never(errands, tuple(some)))
            seen[len(some) > 1] += 1
        self.assertGreater(min(seen.values()), 40)

    def test_each_set_of_many(self):
        """A set shows it just if by all ranks its lowest errand is late; and there is such a set just if none fit."""
        seen = {True: 0, False: 0}
        for errands, _ in made_up(120, 97, most=3, everies=range(8, 31), length=3):
            told = {ranks: plain_answers(errands, ranks) for ranks in all_ranks(errands)}
            shown = False
            for size in range(1, len(errands) + 1):
                for some in itertools.combinations(range(len(errands)), size):
                    expected = True
                    for ranks, longests in told.items():
                        lowest = [number for number in ranks if number in some][-1]
                        late = longests[lowest] is None or longests[lowest] > errands[lowest][1]
                        expected = expected and late
                    self.assertIs(is_never(errands, list(some)), expected, (errands, some))
                    shown = shown or expected
            self.assertEqual(shown, fitting(errands) is None)
            seen[shown] += 1
        self.assertGreater(min(seen.values()), 20)


if __name__ == "__main__":
    unittest.main()
