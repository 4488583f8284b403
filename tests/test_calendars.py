"""Rounds, and the longest answers by calendars: by hand, and against runs over several rounds."""

import inspect
import itertools
import unittest

from ranksure.bounds import longest
from ranksure.calendars import by_calendar, round_of
from ranksure.errors import NoComings, NoErrands, NoRanks, TooLong
from ranksure.runs import answers
from tests.made_up import Numbers, made_up, work_by_hand
from tests.test_runs_many import expected_run


def plain(work, every, due=1, late=0):
    return (every, due, late, ((work, None),))


def every_so(*everies):
    return tuple([plain(1, every) for every in everies])


def plain_round(errands):
    return [times for times in range(1, 2001) if all([times % errand[0] == 0 for errand in errands])][0]


def load(errands):
    times = plain_round(errands)
    return sum([work_by_hand(errand) * times // errand[0] for errand in errands]) - times


def rows_until(errands, calendar, end):
    return [list(range(first, end, errand[0])) for errand, first in zip(errands, calendar)]


class RoundTest(unittest.TestCase):
    def test_arguments(self):
        self.assertEqual(list(inspect.signature(round_of).parameters), ["errands"])
        self.assertEqual(list(inspect.signature(by_calendar).parameters), ["errands", "ranks", "calendar"])

    def test_by_hand(self):
        for everies, expected in (
            ((2,), 2), ((60,), 60), ((4, 6), 12), ((6, 4), 12), ((5, 7), 35), ((7, 7, 7), 7), ((2, 4, 8), 8),
            ((8, 4, 2), 8), ((12, 18, 30), 180), ((10, 12, 15, 20, 30, 60), 60), ((2, 3, 5, 7), 210),
        ):
            self.assertEqual(round_of(every_so(*everies)), expected, everies)

    # No round is just 2000, as 125 goes into no every: the ones next to it are 1998 and 2001.
    def test_2000_and_just_beyond(self):
        self.assertEqual(round_of(every_so(16, 5, 25)), 400)
        self.assertEqual(round_of(every_so(16, 50, 40)), 400)
        self.assertEqual(round_of(every_so(37, 54)), 1998)
        self.assertEqual(round_of(every_so(27, 37, 2)), 1998)
        for everies in ((23, 29, 3), (59, 34), (13, 14, 11), (48, 42, 6, 43), (58, 57)):
            with self.assertRaises(TooLong, msg=repr(everies)):
                round_of(every_so(*everies))

    def test_the_rounds_next_to_2000(self):
        told = {}
        for everies in itertools.combinations_with_replacement(range(2, 61), 3):
            if not 1990 <= least_of_all(everies) <= 2010:
                continue
            try:
                told[least_of_all(everies)] = round_of(every_so(*everies))
            except TooLong:
                told[least_of_all(everies)] = None
        self.assertGreater(len(told), 3)
        for times in told:
            self.assertEqual(told[times], times if times <= 2000 else None)

    def test_far_beyond(self):
        with self.assertRaises(TooLong):
            round_of(every_so(60, 59, 58, 57, 53, 49))

    def test_all_pairs(self):
        for one, other in itertools.combinations_with_replacement(range(2, 45), 2):
            self.assertEqual(round_of(every_so(one, other)), plain_round(every_so(one, other)))


def least_of_all(everies):
    times = everies[0]
    for every in everies[1:]:
        times = [many for many in range(times, times * every + 1, times) if many % every == 0][0]
    return times


class ByHandTest(unittest.TestCase):
    def same(self, errands, ranks, calendar, expected):
        self.assertEqual(by_calendar(errands, ranks, calendar), expected)

    def test_one_errand(self):
        self.same((plain(3, 5),), (0,), (0,), [3])
        self.same((plain(3, 5),), (0,), (999,), [3])
        self.same((plain(5, 5),), (0,), (7,), [5])
        self.same((plain(6, 5),), (0,), (7,), None)

    def test_two_that_never_meet(self):
        errands = (plain(1, 4), plain(2, 4))
        self.same(errands, (0, 1), (0, 0), [1, 3])
        self.same(errands, (0, 1), (0, 1), [1, 2])
        self.same(errands, (0, 1), (0, 2), [1, 2])
        self.same(errands, (0, 1), (0, 3), [1, 3])
        self.same(errands, (1, 0), (0, 0), [3, 2])

    def test_two_that_meet_at_times(self):
        errands = (plain(1, 4), plain(2, 6))
        self.same(errands, (0, 1), (0, 0), [1, 3])
        self.same(errands, (0, 1), (0, 1), [1, 3])
        self.same(errands, (1, 0), (0, 0), [3, 2])
        self.same(errands, (1, 0), (0, 1), [2, 2])

    def test_none_is_late_by_a_calendar(self):
        self.same((plain(1, 4, late=3), plain(2, 4, late=2)), (0, 1), (0, 1), [1, 2])

    def test_a_hold(self):
        errands = ((10, 10, 0, ((1, 0), (1, None))), (10, 10, 0, ((4, 0), (1, None))))
        self.same(errands, (0, 1), (0, 0), [2, 7])
        self.same(errands, (0, 1), (1, 0), [5, 7])
        self.same(errands, (0, 1), (3, 0), [3, 7])
        self.same(errands, (0, 1), (4, 0), [2, 7])

    def test_by_high(self):
        # By "asked" or "none" the second would not wait for the last one's part.
        errands = ((20, 20, 0, ((1, 0), (1, None))), plain(2, 20), (20, 20, 0, ((3, 0), (1, None))))
        self.same(errands, (0, 1, 2), (10, 1, 0), [2, 4, 6])

    def test_just_as_many_works_as_times(self):
        self.same((plain(2, 4), plain(3, 6)), (0, 1), (0, 0), [2, 7])
        self.same((plain(2, 4), plain(3, 6)), (1, 0), (0, 0), [6, 3])
        self.same((plain(1, 2), plain(1, 2)), (0, 1), (0, 1), [1, 1])
        self.same((plain(1, 2), plain(1, 2)), (0, 1), (0, 0), [1, 2])

    def test_one_more_work_than_times(self):
        self.same((plain(2, 4), plain(3, 6), plain(1, 60)), (0, 1, 2), (0, 0, 0), None)
        self.same((plain(2, 4), plain(4, 6)), (0, 1), (0, 0), None)
        self.same((plain(20, 2),) * 6, (0, 1, 2, 3, 4, 5), (0,) * 6, None)

    def test_works_left_over_from_an_earlier_round(self):
        errands = (plain(5, 8), plain(3, 8))
        self.same(errands, (0, 1), (0, 5), [5, 3])
        # The second does one time of its work, and the other two behind the first of the next round.
        self.same(errands, (0, 1), (0, 7), [5, 8])

    def test_one_that_joins_late(self):
        errands = (plain(2, 4), plain(1, 4), plain(1, 4))
        self.same(errands, (0, 1, 2), (0, 2, 999), [2, 1, 1])
        self.same(errands, (2, 0, 1), (0, 2, 998), [2, 2, 1])

    def test_the_latest_first_moments(self):
        errands = (plain(2, 60), plain(3, 60))
        # 999 is 39 behind a moment of the first.
        self.same(errands, (0, 1), (0, 999), [2, 3])
        self.same(errands, (0, 1), (39, 999), [2, 5])
        self.same(errands, (1, 0), (37, 999), [2, 3])
        self.same(errands, (1, 0), (38, 999), [5, 3])

    def test_a_long_round(self):
        errands = (plain(10, 37), plain(20, 54))
        self.assertEqual(by_calendar(errands, (0, 1), (999, 0)), by_calendar(errands, (0, 1), (0, 999)))
        self.same(errands, (0, 1), (0, 0), [10, 30])
        self.same(errands, (1, 0), (999, 0), [30, 20])

    def test_a_new_list_each_time(self):
        by_calendar((plain(3, 5),), (0,), (0,)).append(9)
        self.same((plain(3, 5),), (0,), (0,), [3])


class AgainstRunsTest(unittest.TestCase):
    def test_many(self):
        numbers = Numbers(31)
        seen = {}
        kinds = itertools.chain(
            made_up(1500, 32, most=4, everies=(4, 6, 8, 12, 24), late=2, length=2),
            made_up(300, 33, most=2, everies=(2, 3, 4, 6), late=1, length=2),
            made_up(300, 34, most=5, everies=(10, 15, 20, 30), late=9, length=3, tools=(0, 1, None)),
        )
        for errands, ranks in kinds:
            calendar = tuple([numbers.between(0, 20) for _ in errands])
            told = by_calendar(errands, ranks, calendar)
            seen[(load(errands) > 0, load(errands) == 0)] = True
            if load(errands) > 0:
                self.assertIsNone(told)
                continue
            end = min([first + 60 * errand[0] for errand, first in zip(errands, calendar)])
            rows = answers(errands, ranks, rows_until(errands, calendar, end), "high")
            self.assertGreater(end, 20 + 3 * plain_round(errands))
            self.assertEqual(told, [max(row) for row in rows], (errands, ranks, calendar))
            for number, answer in enumerate(told):
                most = longest(errands, ranks, number)
                self.assertTrue(most is None or answer <= most, (errands, ranks, calendar))
        self.assertEqual(len(seen), 3)

    def test_where_works_are_just_as_many(self):
        numbers = Numbers(35)
        seen = 0
        for errands, ranks in made_up(3000, 36, most=4, everies=(4, 6, 8, 12), late=0, length=2):
            if load(errands) != 0:
                continue
            seen += 1
            calendar = tuple([numbers.between(0, 40) for _ in errands])
            end = max(calendar) + 8 * plain_round(errands)
            rows = rows_until(errands, calendar, end)
            expected = plain_answers(errands, ranks, rows)
            self.assertEqual(by_calendar(errands, ranks, calendar), expected, (errands, ranks, calendar))
        self.assertGreater(seen, 60)

    def test_answers_grow_where_none_is_told(self):
        numbers = Numbers(37)
        seen = 0
        for errands, ranks in made_up(400, 38, most=4, everies=(4, 6, 8, 12), late=0, length=2):
            calendar = tuple([numbers.between(0, 11) for _ in errands])
            if load(errands) > 0:
                seen += 1
                self.assertIsNone(by_calendar(errands, ranks, calendar))
                first = answers(errands, ranks, rows_until(errands, calendar, 96), "high")
                longer = answers(errands, ranks, rows_until(errands, calendar, 240), "high")
                self.assertGreater(max(itertools.chain(*longer)), max(itertools.chain(*first)))
        self.assertGreater(seen, 50)

    def test_first_moments_of_0_and_of_999(self):
        numbers = Numbers(39)
        seen = 0
        for errands, ranks in made_up(120, 40, most=3, everies=(4, 6, 8, 12, 24), late=0, length=2):
            if load(errands) <= 0 and len(errands) > 1:
                seen += 1
                calendar = tuple([numbers.one_of((0, 1, 998, 999)) for _ in errands])
                rows = rows_until(errands, calendar, max(calendar) + 5 * plain_round(errands))
                expected = plain_answers(errands, ranks, rows)
                self.assertEqual(by_calendar(errands, ranks, calendar), expected, (errands, ranks, calendar))
        self.assertGreater(seen, 30)


def plain_answers(errands, ranks, rows):
    """The longest answers by a run that goes through the words of point 6, however many jobs come."""
    ends = {}
    for time, done in enumerate(expected_run(errands, ranks, rows, "high")):
        ends[done] = time + 1
    return [max([ends[(number, job)] - came for job, came in enumerate(row)]) for number, row in enumerate(rows)]


class RefusedTest(unittest.TestCase):
    ERRANDS = (plain(1, 4), plain(2, 6))
    TOO_LONG = every_so(59, 58)

    def test_no_calendar(self):
        wrong = [[0, 0], (0,), (0, 0, 0), (), [], (-1, 0), (0, -1), (1000, 0), (0, 1000), (0, 10 ** 30)]
        wrong += [(True, 0), (0, True), (False, 0), (0, False), ("0", 0), (0, "0"), (0, None), (None, None), (0, 0.0)]
        wrong += [(0, [0]), (0, (0,)), (0, {}), (0, object()), "00", "", None, True, 0, {}, {0: 0, 1: 0}, range(2)]
        wrong += [object(), 1.5, b"ab", (float("nan"), 0), ([0], [0])]
        for calendar in wrong:
            for errands in (self.ERRANDS, self.TOO_LONG):
                with self.assertRaises(NoComings, msg=repr(calendar)):
                    by_calendar(errands, (0, 1), calendar)

    def test_bounds_of_the_numbers(self):
        for calendar in ((0, 0), (999, 0), (0, 999), (999, 999)):
            self.assertEqual(len(by_calendar(self.ERRANDS, (0, 1), calendar)), 2)

    def test_too_long(self):
        with self.assertRaises(TooLong):
            by_calendar(self.TOO_LONG, (0, 1), (0, 0))
        with self.assertRaises(TooLong):
            by_calendar((plain(20, 59), plain(20, 58), plain(20, 2)), (0, 1, 2), (0, 0, 0))

    def test_no_errands_and_no_ranks_go_ahead(self):
        for errands in (None, (), [plain(1, 4)], self.TOO_LONG + (None,), "x", 5):
            for ranks, calendar in itertools.product(((0, 1), None, (0, 0)), ((0, 0), None, (-1, 0))):
                with self.assertRaises(NoErrands):
                    by_calendar(errands, ranks, calendar)
        for ranks, calendar in itertools.product((None, (0, 0), [0, 1], (0,), (0, True)), ((0, 0), None, (-1, 0))):
            for errands in (self.ERRANDS, self.TOO_LONG):
                with self.assertRaises(NoRanks):
                    by_calendar(errands, ranks, calendar)

    def test_no_errands_goes_ahead_of_too_long(self):
        for errands in (None, (), "x", True, list(self.TOO_LONG), self.TOO_LONG + ((61, 1, 0, ((1, None),)),)):
            with self.assertRaises(NoErrands):
                round_of(errands)


if __name__ == "__main__":
    unittest.main()
