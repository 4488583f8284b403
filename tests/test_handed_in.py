"""What is refused over the whole program, in which order, and that what is handed in stays as it was."""

import copy
import itertools
import unittest

from ranksure.bounds import hold, hold_asked, in_time, levels, longest, longest_asked, stretch
from ranksure.calendars import by_calendar, round_of
from ranksure.dealing import fitting, never, roomiest, rush, spare, why_never
from ranksure.errands import checked, heights, work
from ranksure.errors import NoComings, NoErrand, NoErrands, NoNumber, NoRanks, NoText, RankError
from ranksure.hands import dealt, fewest_hands
from ranksure.papers import is_bound, is_late, is_never
from ranksure.runs import answers, checked_comings, run
from ranksure.shows import worst_run
from ranksure.texts import read, shown
from tests.made_up import Numbers, made_comings, made_up

ERRANDS = ((20, 9, 2, ((2, 0), (1, None))), (30, 20, 0, ((4, 0), (1, None))))
RANKS = (1, 0)
COMINGS = [[0], [0]]

OF_ERRANDS = (checked, stretch, round_of, fitting, never, why_never, roomiest, fewest_hands, shown)
OF_RANKS = (heights, in_time)
OF_A_PLACE = (hold, hold_asked, longest, longest_asked, levels, worst_run, spare, rush)
OF_A_PAPER = (is_bound, is_late)
OF_COMINGS = (run, answers)

# Things of any kind that are neither errands nor ranks, comings, a calendar, nor a number of an errand or of hands.
THINGS = (None, True, False, -1, 5, 10 ** 30, 0.0, 1.0, float("nan"), "", "0", "01", b"01", [], [0], [0, 1], (), (0,),
          (0, -1), (0, 1, 2), (0, True), (None, None), ("0", "1"), {}, {0: 1}, {0, 1}, range(2), object(), int, len,
          ([], []), (1, 1000), [ERRANDS[0]], list(ERRANDS), (ERRANDS[0], None), (ERRANDS[0], list(ERRANDS[1])),
          ERRANDS * 4, ((20, 19, 2, ((1, None),)),), ((20, 9, 2, ((2, 0),)),), ((20, 9, 2, ((True, None),)),),
          [[0], [0], [0]], [[0], [-1]], [[0], (0,)], [[0], [0, 29]])


class RefusedTest(unittest.TestCase):
    def refused(self, error, call, *handed):
        with self.assertRaises(error, msg=repr((call, handed))) as caught:
            call(*handed)
        self.assertIs(caught.exception.__class__, error)

    def test_no_errands_goes_ahead(self):
        for errands in THINGS + (0, 1):
            for call in OF_ERRANDS:
                self.refused(NoErrands, call, errands)
            for other in (RANKS, COMINGS, 0, 1, 2) + THINGS:
                for call in OF_RANKS + (work, checked_comings, dealt, is_never):
                    self.refused(NoErrands, call, errands, other)
            for ranks, other in itertools.product((RANKS,) + THINGS, (0, -1, None)):
                for call in OF_A_PLACE + (by_calendar,):
                    self.refused(NoErrands, call, errands, ranks, other)
            for ranks, other in itertools.product((RANKS, None, (0, 0)), (0, -1, None, COMINGS)):
                for call in OF_A_PAPER:
                    self.refused(NoErrands, call, errands, ranks, other, 1)
                for call in OF_COMINGS:
                    self.refused(NoErrands, call, errands, ranks, other, "high")

    def test_no_ranks_goes_ahead_of_the_others(self):
        for ranks in THINGS + (0, 1, (0, 0), (1, 2)):
            for call in OF_RANKS:
                self.refused(NoRanks, call, ERRANDS, ranks)
            for other in (0, 1) + THINGS:
                for call in OF_A_PLACE:
                    self.refused(NoRanks, call, ERRANDS, ranks, other)
                for call in OF_A_PAPER:
                    self.refused(NoRanks, call, ERRANDS, ranks, other, 1)
            for other in ((0, 0), COMINGS) + THINGS:
                self.refused(NoRanks, by_calendar, ERRANDS, ranks, other)
                for call in OF_COMINGS:
                    self.refused(NoRanks, call, ERRANDS, ranks, other, "high")

    def test_no_errand(self):
        for number in THINGS + (-2, 2, 3, 6):
            self.refused(NoErrand, work, ERRANDS, number)
            for call in OF_A_PLACE:
                self.refused(NoErrand, call, ERRANDS, RANKS, number)
            for call, thing in itertools.product(OF_A_PAPER, (1, (COMINGS, (0, 0)), None)):
                self.refused(NoErrand, call, ERRANDS, RANKS, number, thing)
        for number in (-1, 1, True, False):
            for call in OF_A_PLACE:
                self.refused(NoErrand, call, ERRANDS[:1], (0,), number)
            for call in OF_A_PAPER:
                self.refused(NoErrand, call, ERRANDS[:1], (0,), number, 1)

    def test_no_comings(self):
        for comings in THINGS:
            self.refused(NoComings, checked_comings, ERRANDS, comings)
            self.refused(NoComings, by_calendar, ERRANDS, RANKS, comings)
            for call in OF_COMINGS:
                self.refused(NoComings, call, ERRANDS, RANKS, comings, "high")

    def test_no_number(self):
        for hands in THINGS + (0,):
            self.refused(NoNumber, dealt, ERRANDS, hands)

    def test_no_text(self):
        for thing in THINGS + (ERRANDS, RANKS, COMINGS):
            self.refused(NoText, read, thing)

    def test_papers_of_any_kind_are_no_papers(self):
        for thing in THINGS + (ERRANDS, RANKS, COMINGS, (COMINGS, None), (None, (0, 0))):
            self.assertIs(is_late(ERRANDS, RANKS, 0, thing), False, repr(thing))
            self.assertIs(is_never(ERRANDS, thing), False, repr(thing))
            self.assertIs(is_bound(ERRANDS, RANKS, 0, thing), False, repr(thing))

    def test_what_is_right_is_not_refused(self):
        for call, handed in calls(ERRANDS, RANKS, (0, 999), COMINGS):
            try:
                call(*handed)
            except RankError:
                self.fail((call, handed))


def calls(errands, ranks, calendar, comings):
    """All that can be asked of these, as pairs of a function and what is handed in."""
    for number in range(len(errands)):
        yield work, (errands, number)
        for call in OF_A_PLACE:
            yield call, (errands, ranks, number)
        for time in (0, 7):
            yield is_bound, (errands, ranks, number, time)
        yield is_late, (errands, ranks, number, (comings, (number, 0)))
        yield is_late, (errands, ranks, number, [comings, [number, 0]])
    for call in OF_ERRANDS:
        yield call, (errands,)
    for call in OF_RANKS:
        yield call, (errands, ranks)
    yield by_calendar, (errands, ranks, calendar)
    yield checked_comings, (errands, comings)
    for call, lending in itertools.product(OF_COMINGS, ("high", "asked", "none")):
        yield call, (errands, ranks, comings, lending)
    for hands in (1, 2, 3, 4):
        yield dealt, (errands, hands)
    for size in range(len(errands) + 1):
        yield is_never, (errands, list(range(size))[::-1])
    yield read, (shown(errands),)


def spoil(told):
    """Changes every list that is told, down to the last."""
    if isinstance(told, (list, tuple)):
        for one in told:
            spoil(one)
    if isinstance(told, list):
        told.append("spoilt")


KINDS = {work: (int,), hold: (int,), hold_asked: (int,), round_of: (int,), longest: (int, None.__class__),
         longest_asked: (int, None.__class__), stretch: (int, None.__class__), spare: (int, None.__class__),
         rush: (int, None.__class__), fewest_hands: (int, None.__class__), levels: (list, None.__class__),
         by_calendar: (list, None.__class__), never: (list, None.__class__), why_never: (list, None.__class__),
         dealt: (list, None.__class__), heights: (list,), in_time: (list,), checked_comings: (list,), run: (list,),
         answers: (list,), checked: (tuple,), worst_run: (tuple,), read: (tuple,), fitting: (tuple, None.__class__),
         roomiest: (tuple, None.__class__), is_bound: (bool,), is_late: (bool,), is_never: (bool,), shown: (str,)}


class KeptApartTest(unittest.TestCase):
    def made(self, many, start):
        numbers = Numbers(start)
        for errands, ranks in made_up(many, start + 1, everies=(6, 8, 12, 24), length=3):
            fit = fitting(errands)
            calendar = tuple([numbers.between(0, 30) for _ in errands])
            comings = made_comings(numbers, errands, 5, 12)
            yield errands, ranks if fit is None else fit, calendar, comings

    def test_handed_in_stays_and_told_is_new(self):
        for made in self.made(150, 51):
            for call, handed in calls(*made):
                kept = copy.deepcopy(handed)
                told = call(*handed)
                self.assertEqual(handed, kept)
                first = copy.deepcopy(told)
                spoil(told)
                self.assertEqual(handed, kept)
                self.assertEqual(call(*kept), first, (call, handed))

    def test_told_lists_are_no_parts_of_one_another(self):
        """A list that is told twice within one answer would change in two places."""
        def lists_in(told):
            found = [told] if isinstance(told, list) else []
            for one in told if isinstance(told, (list, tuple)) else ():
                found += lists_in(one)
            return found

        for made in self.made(60, 55):
            for call, handed in calls(*made):
                found = lists_in(call(*handed))
                self.assertEqual(len({id(one) for one in found}), len(found), call)

    def test_kinds(self):
        seen = {}
        for made in self.made(80, 53):
            for call, handed in calls(*made):
                told = call(*handed)
                self.assertIn(told.__class__, KINDS[call], (call, handed))
                seen[(call, told.__class__)] = True
        self.assertGreater(len(seen), len(KINDS) + 10)

    def test_equal_things_of_other_calls(self):
        """What was asked ahead leaves no trace: forwards and backwards, all is told alike."""
        asked = [one for made in self.made(12, 57) for one in calls(*made)]
        forwards = [call(*handed) for call, handed in asked]
        backwards = [call(*copy.deepcopy(handed)) for call, handed in reversed(asked)]
        self.assertEqual(forwards, backwards[::-1])


if __name__ == "__main__":
    unittest.main()
