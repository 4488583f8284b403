"""The errands in another order, ranks alike: what is told of each errand stays the same."""

import itertools
import unittest

from ranksure.bounds import hold, hold_asked, in_time, levels, longest, longest_asked, stretch
from ranksure.calendars import by_calendar, round_of
from ranksure.dealing import fitting, never, roomiest, rush, spare
from ranksure.errands import heights, work
from ranksure.errors import TooLong
from ranksure.hands import dealt, fewest_hands
from ranksure.papers import is_bound, is_late, is_never
from ranksure.runs import answers
from ranksure.shows import worst_run
from tests.made_up import Numbers, made_ranks, made_up

OF_A_PLACE = (hold, hold_asked, longest, longest_asked, levels, spare, rush)
OF_ALL = (stretch, fewest_hands, lambda errands: fitting(errands) is None, lambda errands: never(errands) is None)


def reordered(start):
    """Errands and ranks, the order in which they stand anew, and the same so."""
    numbers = Numbers(start)
    kinds = itertools.chain(
        made_up(150, 111, most=5, everies=range(8, 31)),
        made_up(150, 112, most=6, everies=range(30, 61), late=5, length=2),
        made_up(100, 113, most=4, everies=(6, 12, 24), late=2, length=2),
    )
    for errands, ranks in kinds:
        fit = fitting(errands)
        if fit is not None and numbers.below(2) == 0:
            ranks = fit
        order = made_ranks(numbers, len(errands))
        moved = tuple([errands[number] for number in order])
        yield (errands, ranks), order, (moved, tuple([order.index(number) for number in ranks]))


def moved_rows(rows, order):
    return [rows[number] for number in order]


class OtherOrderTest(unittest.TestCase):
    def test_of_each_errand(self):
        fit = 0
        for here, order, there in reordered(114):
            for anew, number in enumerate(order):
                for call in OF_A_PLACE:
                    self.assertEqual(call(*here, number), call(*there, anew), (call, here, order, number))
                self.assertEqual(work(here[0], number), work(there[0], anew))
                fit += spare(*here, number) is not None
        self.assertGreater(fit, 200)

    def test_of_all(self):
        for here, order, there in reordered(115):
            for call in OF_ALL:
                self.assertEqual(call(here[0]), call(there[0]), (here[0], order))
            self.assertEqual(heights(*here), heights(*there))
            self.assertEqual(in_time(*here), sorted([order[anew] for anew in in_time(*there)]))

    def test_rooms(self):
        for here, _, there in reordered(116):
            told = [roomiest(errands) for errands in (here[0], there[0])]
            rooms = [None if one is None else one[0] for one in told]
            self.assertEqual(rooms[0], rooms[1], here[0])

    def test_dealings(self):
        for here, order, there in reordered(117):
            for hands in (1, 2, 3, 4):
                self.assertEqual(dealt(here[0], hands) is None, dealt(there[0], hands) is None, (here[0], order))

    def test_papers(self):
        for here, order, there in reordered(118):
            some = never(here[0])
            if some is not None:
                self.assertTrue(is_never(there[0], sorted([order.index(number) for number in some])))
            for anew, number in enumerate(order):
                for time in (1, 5, 9, 20):
                    self.assertEqual(is_bound(*here, number, time), is_bound(*there, anew, time))

    def test_runs(self):
        for here, order, there in itertools.islice(reordered(119), 0, None, 4):
            for anew, number in enumerate(order):
                comings, (_, job) = worst_run(*here, number)
                moved = moved_rows(comings, order)
                self.assertEqual(is_late(*here, number, (comings, (number, job))),
                                 is_late(*there, anew, (moved, (anew, job))))
                self.assertEqual(moved_rows(answers(*here, comings, "high"), order), answers(*there, moved, "high"))

    def test_calendars(self):
        numbers = Numbers(120)
        seen = 0
        for here, order, there in reordered(121):
            try:
                times = round_of(here[0])
            except TooLong:
                with self.assertRaises(TooLong):
                    round_of(there[0])
                continue
            self.assertEqual(round_of(there[0]), times)
            if times < 200:
                seen += 1
                calendar = tuple([numbers.between(0, 20) for _ in order])
                told = by_calendar(*here, calendar)
                moved = by_calendar(*there, tuple(moved_rows(calendar, order)))
                self.assertEqual(moved, None if told is None else moved_rows(told, order))
        self.assertGreater(seen, 100)


if __name__ == "__main__":
    unittest.main()
