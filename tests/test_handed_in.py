"""What bounds, shows and calendars refuse, in which order, and that what is handed in stays as it was."""

import copy
import itertools
import unittest

from ranksure.bounds import hold, hold_asked, in_time, levels, longest, longest_asked, stretch
from ranksure.calendars import by_calendar, round_of
from ranksure.errors import NoErrand, NoErrands, NoRanks
from ranksure.shows import worst_run
from tests.made_up import Numbers, made_up

ERRANDS = ((20, 9, 2, ((2, 0), (1, None))), (30, 20, 0, ((4, 0), (1, None))))
RANKS = (1, 0)

OF_A_PLACE = (hold, hold_asked, longest, longest_asked, levels, worst_run)

# Things of any kind that are neither errands nor ranks nor an errand's number.
THINGS = (None, True, False, -1, 2, 10 ** 30, 0.0, 1.0, float("nan"), "", "0", "01", b"01", [], [0], [0, 1], (), (0,),
          (0, 0), (0, 1, 2), (0, True), (None, None), ("0", "1"), {}, {0: 1}, {0, 1}, range(2), object(), int, len,
          ([], []), (1, 2), [ERRANDS[0]], list(ERRANDS), (ERRANDS[0], None), (ERRANDS[0], list(ERRANDS[1])),
          ERRANDS * 4, ((20, 19, 2, ((1, None),)),), ((20, 9, 2, ((2, 0),)),), ((20, 9, 2, ((True, None),)),))


class RefusedTest(unittest.TestCase):
    def refused(self, error, call, *handed):
        with self.assertRaises(error, msg=repr((call, handed))) as caught:
            call(*handed)
        self.assertIs(caught.exception.__class__, error)

    def test_no_errands_goes_ahead(self):
        for call in OF_A_PLACE:
            for errands, ranks, number in itertools.product(THINGS, (RANKS,) + THINGS, (0, -1, None)):
                self.refused(NoErrands, call, errands, ranks, number)
        for errands in THINGS + (0, 1):
            self.refused(NoErrands, stretch, errands)
            self.refused(NoErrands, round_of, errands)
            for ranks in (RANKS,) + THINGS:
                self.refused(NoErrands, in_time, errands, ranks)
                self.refused(NoErrands, by_calendar, errands, ranks, (0, 0))
                self.refused(NoErrands, by_calendar, errands, ranks, None)

    def test_no_ranks_goes_ahead_of_no_errand(self):
        for call in OF_A_PLACE:
            for ranks, number in itertools.product(THINGS, (0, 1) + THINGS):
                self.refused(NoRanks, call, ERRANDS, ranks, number)
        for ranks in THINGS + (0, 1):
            self.refused(NoRanks, in_time, ERRANDS, ranks)
            self.refused(NoRanks, by_calendar, ERRANDS, ranks, (0, 0))
            self.refused(NoRanks, by_calendar, ERRANDS, ranks, None)

    def test_no_errand(self):
        for call in OF_A_PLACE:
            for number in THINGS + (-2, 3, 6):
                self.refused(NoErrand, call, ERRANDS, RANKS, number)
            for number in (-1, 1, True, False):
                self.refused(NoErrand, call, ERRANDS[:1], (0,), number)

    def test_what_is_right_is_not_refused(self):
        for call in OF_A_PLACE:
            for number in (0, 1):
                call(ERRANDS, RANKS, number)


def calls(errands, ranks, calendar):
    """All that can be asked of these, as pairs of a function and what is handed in."""
    for call, number in itertools.product(OF_A_PLACE, range(len(errands))):
        yield call, (errands, ranks, number)
    yield in_time, (errands, ranks)
    yield stretch, (errands,)
    yield round_of, (errands,)
    yield by_calendar, (errands, ranks, calendar)


def spoil(told):
    """Changes every list that is told, down to the last."""
    if isinstance(told, (list, tuple)):
        for one in told:
            spoil(one)
    if isinstance(told, list):
        told.append("spoilt")


class KeptApartTest(unittest.TestCase):
    def test_handed_in_stays_and_told_is_new(self):
        numbers = Numbers(51)
        for errands, ranks in made_up(150, 52, everies=(6, 8, 12, 24), length=3):
            calendar = tuple([numbers.between(0, 30) for _ in errands])
            for call, handed in calls(errands, ranks, calendar):
                kept = copy.deepcopy(handed)
                told = call(*handed)
                self.assertEqual(handed, kept)
                first = copy.deepcopy(told)
                spoil(told)
                self.assertEqual(handed, kept)
                self.assertEqual(call(*kept), first, (call, handed))

    def test_kinds(self):
        for errands, ranks in made_up(60, 53, everies=(6, 8, 12, 24), length=3):
            for call, handed in calls(errands, ranks, (0,) * len(errands)):
                told = call(*handed)
                if call in (hold, hold_asked, round_of):
                    self.assertIs(told.__class__, int)
                elif call in (longest, longest_asked, stretch):
                    self.assertIn(told.__class__, (int, None.__class__))
                elif call in (levels, by_calendar):
                    self.assertIn(told.__class__, (list, None.__class__))
                else:
                    self.assertIs(told.__class__, list if call == in_time else tuple)


if __name__ == "__main__":
    unittest.main()
